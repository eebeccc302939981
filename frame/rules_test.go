package frame

import (
	"bytes"
	"math"
	"slices"
	"sync"
	"testing"

	"windbreak/api"
)

// spoil overwrites all that bytes could reach, behind their end too.
func spoil(b []byte) {
	b = b[:cap(b)]
	for i := range b {
		b[i] ^= 0x55
	}
}

// R3: what is handed in stays as it is, behind its end too, be it a frame or not.
func TestHandedInStays(t *testing.T) {
	for _, f := range frames() {
		for _, all := range [][]byte{append(encoded(f), 1, 2, 3, 4, 5, 6, 7, 8), append(sealed(encoded(f)), 1, 2, 3)} {
			for _, count := range []int{0, 3, 4, 8, len(all) - 9, len(all) - 8, len(all) - 3, len(all)} {
				given := slices.Clone(all)
				b := given[:count]
				Sum(b)
				Decode(b)
				Encode(api.Frame{Data: true, Body: b})
				Encode(api.Frame{Body: b})
				if !bytes.Equal(given, all) {
					t.Fatal("changed:", count, short(all))
				}
			}
		}
	}
}

// R3: what Encode tells is the caller's own: no Body hangs on it, nor does it hang on a Body.
func TestEncodedIsOwn(t *testing.T) {
	for _, f := range frames() {
		body, want := slices.Clone(f.Body), encoded(f)
		first, _ := Encode(f)
		second, _ := Encode(f)
		spoil(first)
		_ = append(first, 9, 9, 9)
		if !bytes.Equal(f.Body, body) || !bytes.Equal(second, want) {
			t.Fatal("what is told is shared:", f)
		}
		spoil(f.Body)
		if !bytes.Equal(second, want) {
			t.Fatal("what was handed in is shared:", f)
		}
	}
}

// R3: what Decode tells is the caller's own.
func TestDecodedIsOwn(t *testing.T) {
	for _, f := range frames() {
		b := encoded(f)
		given := slices.Clone(b)
		first, _ := Decode(given)
		second, _ := Decode(given)
		spoil(first.Body)
		_ = append(first.Body, 9, 9, 9)
		if !bytes.Equal(given, b) || !same(second, f) {
			t.Fatal("what is told is shared:", f)
		}
		spoil(given)
		if !same(second, f) {
			t.Fatal("what was handed in is shared:", f)
		}
	}
}

// R2: nil and empty are the same, handed in and out.
func TestNilAndEmpty(t *testing.T) {
	for _, none := range [][]byte{nil, {}, make([]byte, 0, 9)} {
		if s := Sum(none); s != 0 {
			t.Error("the sum of no bytes:", s)
		}
		refuses(t, "no bytes", none)
		for _, data := range []bool{false, true} {
			f := api.Frame{Data: data, Ack: 4, Body: none}
			b, err := Encode(f)
			if err != api.OK || !bytes.Equal(b, encoded(api.Frame{Data: data, Ack: 4})) {
				t.Error("an empty Body:", b, err)
			}
			accepts(t, "an empty Body", b, f)
		}
	}
}

// told is all that calls tell of some frames and bytes, one behind the other.
func told() []byte {
	var all []byte
	for _, f := range frames()[:150] {
		b, err := Encode(f)
		s := Sum(b)
		all = append(append(all, b...), byte(err), byte(s), byte(s>>8), byte(s>>16), byte(s>>24))
		f, err = Decode(b)
		all = append(append(all, f.Body...), byte(err), byte(f.Seq), byte(f.Ack))
	}
	return all
}

// R4: the same is told whatever was asked ahead, and by many that ask at one time.
func TestNothingKept(t *testing.T) {
	want := told()
	Encode(api.Frame{Seq: -1})
	Decode([]byte{1, 2, 3})
	Sum(bytesOf(11, 5000))
	if !bytes.Equal(told(), want) {
		t.Error("another answer behind other calls")
	}
	var wait sync.WaitGroup
	var all [8][]byte
	for i := range all {
		wait.Go(func() { all[i] = told() })
	}
	wait.Wait()
	for i := range all {
		if !bytes.Equal(all[i], want) {
			t.Error("another answer at one time with others")
		}
	}
}

// P1 and R1: a call that tells an error tells nothing else, and changes nothing: asked again, it tells the same.
func TestErrorsAlone(t *testing.T) {
	f := api.Frame{Seq: 1, Ack: -1, Body: []byte{1, 2, 3}}
	for range 3 {
		if b, err := Encode(f); b != nil || err != api.ErrArg || !bytes.Equal(f.Body, []byte{1, 2, 3}) {
			t.Error(b, err, f)
		}
		refuses(t, "no Data with a Body", sealed([]byte{0, 0, 7, 2, 8, 9}))
		refuses(t, "bytes behind a whole frame", sealed([]byte{1, 4, 7, 2, 8, 9, 0}))
	}
}

// FuzzFrames looks for frames and bytes at which a call panics, or tells another thing than another reckoning.
func FuzzFrames(f *testing.F) {
	f.Add(true, 300, 7, []byte("hi"), uint(3))
	f.Add(false, 0, 1<<30, []byte(nil), uint(0))
	f.Add(false, 1, -1, []byte{0, 0, 0, 0, 33, 68, 223, 28}, uint(63))
	f.Add(true, math.MaxInt, math.MinInt, []byte{1, 128, 0, 0, 0}, uint(8))
	f.Fuzz(func(t *testing.T, data bool, seq, ack int, b []byte, bit uint) {
		checkSum(t, b)
		checkDecode(t, b)
		checkDecode(t, sealed(b))
		x := api.Frame{Data: data, Seq: seq, Ack: ack, Body: b}
		checkEncode(t, x)
		if !allowed(x) {
			return
		}
		code := comesBack(t, x)
		turnedBits(t, code, int(bit%uint(len(code))))
	})
}
