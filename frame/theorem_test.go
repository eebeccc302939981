package frame

import (
	"bytes"
	"math/rand/v2"
	"slices"
	"testing"

	"windbreak/api"
)

// comesBack asks of a frame that what was encoded is decoded as it was, and tells its bytes.
func comesBack(t testing.TB, f api.Frame) []byte {
	t.Helper()
	b, err := Encode(f)
	if err != api.OK {
		t.Fatalf("%v %d %d, %d bytes: error %d", f.Data, f.Seq, f.Ack, len(f.Body), err)
	}
	accepts(t, "encoded", b, f)
	return b
}

// P10.3: what was encoded is decoded as it was, and no two frames are the same bytes.
func TestComesBack(t *testing.T) {
	seen := map[string]api.Frame{}
	for _, f := range frames() {
		b := comesBack(t, f)
		if other, ok := seen[string(b)]; ok && !same(f, other) {
			t.Error("the same bytes:", f, other)
		}
		seen[string(b)] = f
	}
	r := rand.New(rand.NewPCG(8, 10))
	for range 20000 {
		comesBack(t, api.Frame{Data: true, Seq: r.IntN(1<<30+1) >> r.IntN(31), Ack: r.IntN(1<<30+1) >> r.IntN(31), Body: bytesOf(r.Uint64(), r.IntN(40))})
		comesBack(t, api.Frame{Ack: r.IntN(1<<30+1) >> r.IntN(31)})
	}
	for count := range 700 {
		comesBack(t, api.Frame{Data: true, Seq: count, Ack: 1 << 30, Body: bytesOf(uint64(count), count)})
	}
	for _, count := range []int{1 << 14, 1 << 16, 1<<20 - 1, 1 << 20} {
		comesBack(t, api.Frame{Data: true, Seq: 1 << 30, Ack: 1 << 30, Body: bytesOf(uint64(count), count)})
	}
}

// P10.3: a Body that is itself a frame, or many, or ends in the sum of what is ahead, comes back too.
func TestFrameInFrame(t *testing.T) {
	var b []byte
	for depth := range 200 {
		b = comesBack(t, api.Frame{Data: true, Seq: depth, Ack: 2 * depth, Body: b})
	}
	comesBack(t, api.Frame{Data: true, Body: slices.Concat(b, b, b)})
}

// turnedBits asks of a frame's bytes that they are none, if any one bit of those at these places is turned.
func turnedBits(t testing.TB, b []byte, places ...int) {
	t.Helper()
	c := slices.Clone(b)
	for _, i := range places {
		for bit := range 8 {
			c[i] ^= 1 << bit
			refuses(t, "a bit turned", c)
			c[i] ^= 1 << bit
		}
	}
	if !bytes.Equal(b, c) {
		t.Error("the bytes were changed")
	}
}

// P10.3: a frame of which any one bit was turned is none.
func TestTurnedBit(t *testing.T) {
	for _, f := range frames() {
		b := comesBack(t, f)
		for i := range b {
			if len(b) < 100 || i < 20 || i >= len(b)-20 || i%499 == 0 {
				turnedBits(t, b, i)
			}
		}
	}
	long := comesBack(t, api.Frame{Data: true, Seq: 1 << 30, Ack: 1 << 29, Body: bytesOf(9, api.MaxBytes)})
	turnedBits(t, long, 0, 1, 5, 6, 11, 12, 13, 14, len(long)/2, len(long)-5, len(long)-4, len(long)-1)
}

// P10.3: the sum of bytes and the four bytes of their own sum, the lowest first, is always the same.
func TestOwnSum(t *testing.T) {
	check := func(b []byte) {
		t.Helper()
		s := Sum(b)
		if got := Sum(append(slices.Clone(b), byte(s), byte(s>>8), byte(s>>16), byte(s>>24))); got != ownSum {
			t.Errorf("%d bytes %v: %d", len(b), short(b), got)
		}
	}
	check(nil)
	for x := range 256 {
		check([]byte{byte(x)})
		check(bytes.Repeat([]byte{byte(x)}, x))
	}
	for count := range 1500 {
		check(bytesOf(uint64(count), count))
	}
	for _, f := range frames() {
		check(encoded(f))
	}
	check(bytesOf(10, 1<<20))
	if Sum([]byte{0, 0, 0, 0}) != ownSum {
		t.Error("that of four bytes 0")
	}
}

// The document's examples.
func TestExamples(t *testing.T) {
	if s := Sum([]byte("123456789")); s != 3421780262 {
		t.Error("the sum of the text:", s)
	}
	if b, err := Encode(api.Frame{}); err != api.OK || !bytes.Equal(b, []byte{0, 0, 0, 0, 33, 68, 223, 28}) {
		t.Error("no Data, Ack 0:", b, err)
	}
	if s := Sum(make([]byte, 4)); s != 558161692 {
		t.Error("four bytes 0:", s)
	}
}
