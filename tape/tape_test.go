package tape

import (
	"bytes"
	"math"
	"testing"

	"windbreak/api"
)

// P4.1: a tape of no bytes, of some, of as many as may be; all of them are left.
func TestNew(t *testing.T) {
	for _, count := range []int{0, 1, 2, 3, 255, 256, 65535, 65536} {
		b := bytesOf(1, count)
		left(t, "new", of(t, b...), b)
	}
	if x, err := New(nil); err != api.OK || x == nil || x.Left() != 0 {
		t.Error("of no bytes:", x, err)
	}
}

// P4.1: no tape has more than 65536 bytes.
func TestNewOfTooMany(t *testing.T) {
	for _, count := range []int{65537, 65538, 1 << 17, 1 << 20} {
		if x, err := New(make([]byte, count)); err != api.ErrArg || x != nil {
			t.Error("of", count, "bytes:", x, err)
		}
	}
}

// P4.1: bytes are taken in their order, each once, and Left goes down by as many.
func TestTake(t *testing.T) {
	all := bytesOf(2, 1000)
	x, at := of(t, all...), 0
	for _, n := range []int{1, 0, 2, 3, 100, 0, 255, 1, 256, 300} {
		b, err := x.Take(n)
		if err != api.OK || !bytes.Equal(b, all[at:at+n]) {
			t.Error("taken from", at, "on:", b, err)
		}
		at += n
		if x.Left() != len(all)-at {
			t.Error("left behind", at, "are", x.Left())
		}
	}
	left(t, "behind the takes", x, all[at:])
}

// P4.1: Take of 0, of all that is left, and of one more, of which none is used, of tapes of each length.
func TestTakeToTheEnd(t *testing.T) {
	for _, count := range []int{0, 1, 2, 7, 65535, 65536} {
		all := bytesOf(3, count)
		x := of(t, all...)
		if b, err := x.Take(0); err != api.OK || len(b) != 0 || x.Left() != count {
			t.Error("none of", count, b, err, x.Left())
		}
		want := api.ErrTapeEnd
		if count == api.MaxTape {
			want = api.ErrArg // one more than the longest tape has is no count
		}
		if b, err := x.Take(count + 1); err != want || b != nil || x.Left() != count {
			t.Error("one more than", count, b, err, x.Left())
		}
		left(t, "all", x, all)
		if x.Left() != 0 {
			t.Error("behind all", count, "are left", x.Left())
		}
		if b, err := x.Take(0); err != api.OK || len(b) != 0 {
			t.Error("none behind the end:", b, err)
		}
		if b, err := x.Take(1); err != api.ErrTapeEnd || b != nil || x.Left() != 0 {
			t.Error("one behind the end:", b, err)
		}
	}
}

// P4.1: less are left than asked for, at a place within the tape; none is used, and less can be taken still.
func TestTakeTooMany(t *testing.T) {
	x := of(t, 1, 2, 3, 4, 5)
	x.Take(2)
	for _, n := range []int{4, 5, 6, 255, 65535, 65536} {
		if b, err := x.Take(n); err != api.ErrTapeEnd || b != nil || x.Left() != 3 {
			t.Error(n, "of three:", b, err, x.Left())
		}
	}
	if b, err := x.Take(1); err != api.OK || !bytes.Equal(b, []byte{3}) {
		t.Error("the third one:", b, err)
	}
	left(t, "behind it", x, []byte{4, 5})
}

// P4.1: counts below 0 and above 65536 are ErrArg, ahead of ErrTapeEnd, and use nothing.
func TestTakeOfWrong(t *testing.T) {
	for _, all := range [][]byte{nil, {1, 2, 3}, bytesOf(4, api.MaxTape)} {
		x := of(t, all...)
		for _, n := range []int{-1, -2, -256, math.MinInt32, math.MinInt, 65537, 65538, math.MaxInt32, math.MaxInt} {
			if b, err := x.Take(n); err != api.ErrArg || b != nil || x.Left() != len(all) {
				t.Error(n, "of", len(all), b, err, x.Left())
			}
		}
		left(t, "behind wrong counts", x, all)
	}
}

// P4.1: 65536 may be asked for: a tape of as many has them, and no shorter one.
func TestTakeOfMost(t *testing.T) {
	all := bytesOf(5, api.MaxTape)
	left(t, "the longest", of(t, all...), all)
	for _, count := range []int{0, 3, 65535} {
		x := of(t, all[:count]...)
		if b, err := x.Take(65536); err != api.ErrTapeEnd || b != nil || x.Left() != count {
			t.Error("65536 of", count, err, x.Left())
		}
	}
}
