package frame

import (
	"bytes"
	"math/rand/v2"
	"slices"
	"testing"

	"windbreak/api"
)

// P10.1: frames written out, the sums too.
func TestEncode(t *testing.T) {
	for _, c := range []struct {
		f    api.Frame
		want []byte
	}{
		{api.Frame{}, []byte{0, 0, 0, 0, 33, 68, 223, 28}},
		{api.Frame{Data: true}, []byte{1, 0, 0, 0, 0x99, 0xf8, 0xb8, 0x79}},
		{api.Frame{Ack: 1}, []byte{0, 0, 1, 0, 0x38, 0x5f, 0xee, 0x5d}},
		{api.Frame{Data: true, Seq: 300, Ack: 7, Body: []byte("hi")}, []byte{1, 172, 2, 7, 2, 'h', 'i', 0x28, 0x1c, 0x82, 0xbb}},
		{api.Frame{Data: true, Seq: 1 << 30, Ack: 128, Body: []byte{0}}, []byte{1, 128, 128, 128, 128, 4, 128, 1, 1, 0, 0xaf, 0x80, 0x33, 0x7a}},
	} {
		if got, err := Encode(c.f); err != api.OK || !bytes.Equal(got, c.want) {
			t.Errorf("%v: error %d, told %#v, asked %#v", c.f, err, got, c.want)
		}
	}
}

// P10.1: Seq and Ack of each length, with Data and without, by another reckoning.
func TestEncodeOfMany(t *testing.T) {
	for _, f := range frames() {
		checkEncode(t, f)
	}
	for _, seq := range seqs() {
		for _, ack := range seqs() {
			checkEncode(t, api.Frame{Data: true, Seq: seq, Ack: ack, Body: []byte{9}})
		}
	}
}

// P10.1: a Seq or an Ack below 0, or above 2^30, may not be, be the other one right or not.
func TestEncodeOfWrongNumbers(t *testing.T) {
	for _, wrong := range wrongs() {
		for _, data := range []bool{false, true} {
			checkArg(t, "the Ack", api.Frame{Data: data, Ack: wrong})
			checkArg(t, "the Seq", api.Frame{Data: data, Seq: wrong})
			checkArg(t, "both", api.Frame{Data: data, Seq: wrong, Ack: wrong})
			checkArg(t, "the Seq, with an Ack", api.Frame{Data: data, Seq: wrong, Ack: 1 << 30, Body: []byte{1}})
			checkArg(t, "the Ack, with a Seq", api.Frame{Data: data, Seq: 1 << 30, Ack: wrong, Body: []byte{1}})
		}
	}
}

// checkArg asks of a frame that it may not be.
func checkArg(t *testing.T, what string, f api.Frame) {
	t.Helper()
	if got, err := Encode(f); err != api.ErrArg || got != nil {
		t.Errorf("%s: %v %d %d, %d bytes: error %d, told %v", what, f.Data, f.Seq, f.Ack, len(f.Body), err, short(got))
	}
}

// P10.1: no Data has neither a Seq nor a Body; an Ack it may have.
func TestEncodeOfNoData(t *testing.T) {
	for _, ack := range seqs() {
		for _, none := range [][]byte{nil, {}, make([]byte, 0, 5)} {
			got, err := Encode(api.Frame{Ack: ack, Body: none})
			if err != api.OK || !bytes.Equal(got, sealed([]byte{0, 0}, number(uint64(ack)), []byte{0})) {
				t.Error("no Data, Ack", ack, err, got)
			}
		}
		for _, seq := range []int{1, 2, 127, 128, 1 << 29, 1 << 30, -1} {
			checkArg(t, "no Data with a Seq", api.Frame{Seq: seq, Ack: ack})
		}
		for _, body := range [][]byte{{0}, {1}, {0, 0}, bytesOf(1, 300)} {
			checkArg(t, "no Data with a Body", api.Frame{Ack: ack, Body: body})
			checkArg(t, "no Data with both", api.Frame{Seq: 1, Ack: ack, Body: body})
		}
	}
	checkArg(t, "no Data with the longest Body", api.Frame{Body: make([]byte, api.MaxBytes)})
}

// P10.1: a Body of 1048576 bytes may be; one of a byte more, or of many more, may not.
func TestEncodeOfLongBody(t *testing.T) {
	b := bytesOf(2, 2*1048576)
	for _, count := range []int{1048575, 1048576} {
		f := api.Frame{Data: true, Seq: 5, Ack: 6, Body: b[:count]}
		got, err := Encode(f)
		if err != api.OK || !bytes.Equal(got, encoded(f)) || len(got) != 1+1+1+len(number(uint64(count)))+count+4 {
			t.Error("a Body of", count, "bytes:", err, len(got), short(got))
		}
	}
	for _, count := range []int{1048577, 1048578, 1 << 21} {
		checkArg(t, "a long Body", api.Frame{Data: true, Seq: 5, Ack: 6, Body: b[:count]})
		checkArg(t, "a long Body, no Data", api.Frame{Body: b[:count]})
	}
}

// P10.1: any frames, right ones and wrong ones.
func TestEncodeOfAny(t *testing.T) {
	r := rand.New(rand.NewPCG(3, 10))
	numbers := slices.Concat(seqs(), wrongs(), []int{0, 0, 0, 0, 0, 0, 0, 0, 0, 0})
	may := 0
	for range 20000 {
		f := api.Frame{Data: r.IntN(2) == 1, Seq: numbers[r.IntN(len(numbers))], Ack: numbers[r.IntN(len(numbers))], Body: bytesOf(r.Uint64(), r.IntN(3)*r.IntN(9))}
		checkEncode(t, f)
		if allowed(f) {
			may++
		}
	}
	if may < 2000 || may > 18000 {
		t.Error("how many of these may be:", may)
	}
}
