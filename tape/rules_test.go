package tape

import (
	"bytes"
	"math"
	"slices"
	"testing"

	"windbreak/api"
	"windbreak/nat"
)

// spoil overwrites all that a list could reach, behind its end too.
func spoil[E byte | uint64](l []E) {
	l = l[:cap(l)]
	for i := range l {
		l[i] ^= 0x55
	}
}

// play is all that calls of each kind tell of a tape, one behind the other; each answer is spoilt behind its call, if so asked.
func play(x *Tape, spoilt bool) []api.Nat {
	var told []api.Nat
	for i := range 12 {
		b, err := x.Take(i)
		told = append(told, api.Nat{uint64(err), uint64(x.Left())}, widened(b))
		for _, n := range []api.Nat{{1}, {3}, {256}, {257}, {top}, {7, 7}, power(130, 1), {1, 0}} {
			a, err := x.Below(n)
			told = append(told, api.Nat{uint64(err), uint64(x.Left())}, slices.Clone(a))
			if spoilt {
				spoil(a)
			}
		}
		small, err := x.Small(100 + i)
		told = append(told, api.Nat{uint64(err), uint64(x.Left()), uint64(small)})
		if spoilt {
			spoil(b)
		}
	}
	return told
}

// widened is bytes as a list of numbers of their own memory.
func widened(b []byte) api.Nat {
	var a api.Nat
	for _, v := range b {
		a = append(a, uint64(v))
	}
	return a
}

func sameLists(x, y []api.Nat) bool {
	return slices.EqualFunc(x, y, func(a, b api.Nat) bool { return slices.Equal(a, b) })
}

// R3: what is handed to New stays as it is, behind its end too, whatever is drawn.
func TestHandedInStays(t *testing.T) {
	all := bytesOf(9, 900)
	given := slices.Clone(all)
	for _, count := range []int{0, 1, 500, 899, 900} {
		play(of(t, given[:count]...), true)
		if !bytes.Equal(given, all) {
			t.Fatal("changed:", count)
		}
	}
}

// R3: a change of what was handed to New changes no draw.
func TestTapeIsOwn(t *testing.T) {
	all := bytesOf(10, 900)
	want := play(of(t, all...), false)
	given := slices.Clone(all)
	x, err := New(given)
	if err != api.OK {
		t.Fatal(err)
	}
	spoil(given)
	if !sameLists(play(x, false), want) {
		t.Error("the tape is shared with what was handed in")
	}
	// Changed between two draws, too.
	given = slices.Clone(all)
	x, _ = New(given)
	x.Take(400)
	spoil(given)
	left(t, "behind a change", x, all[400:])
}

// R3: two tapes of the same bytes share nothing: what one uses is left on the other.
func TestTapesAreApart(t *testing.T) {
	all := bytesOf(11, 900)
	want := play(of(t, all...), false)
	x, y := of(t, all...), of(t, all...)
	play(x, true)
	if y.Left() != len(all) || !sameLists(play(y, false), want) {
		t.Error("what one tape used is used on the other")
	}
}

// R3: what is told is the caller's own: no later draw hangs on it, and no other answer.
func TestToldIsOwn(t *testing.T) {
	all := bytesOf(12, 900)
	if !sameLists(play(of(t, all...), true), play(of(t, all...), false)) {
		t.Error("what is told is shared with the tape")
	}
	x := of(t, all...)
	first, _ := x.Take(10)
	none, _ := x.Take(0)
	second, _ := x.Take(10)
	spoil(first)
	spoil(none)
	if !bytes.Equal(second, all[10:20]) {
		t.Error("answers share memory")
	}
	_ = append(first, 1, 2, 3)
	_ = append(none, 1, 2, 3)
	left(t, "behind spoilt answers", x, all[20:])
}

// R3: the number below which is drawn stays as it is, and what is told does not share it.
func TestBoundStays(t *testing.T) {
	for _, n := range append(bounds(), wrong()...) {
		given := append(slices.Clone(n), 11, 12)
		x := of(t, make([]byte, 600)...)
		a, _ := x.Below(given[:len(n)])
		spoil(a)
		if !slices.Equal(given, append(slices.Clone(n), 11, 12)) {
			t.Error("changed:", n)
		}
	}
}

// R2: nil and empty are the same, handed in.
func TestNilAndEmpty(t *testing.T) {
	for _, b := range [][]byte{nil, {}} {
		x, err := New(b)
		if err != api.OK || x == nil || x.Left() != 0 {
			t.Fatal("of no bytes:", x, err)
		}
		if !sameLists(play(x, false), play(of(t), false)) {
			t.Error("nil and empty tapes")
		}
	}
	for _, n := range []api.Nat{nil, {}} {
		if a, err := of(t, 1, 2).Below(n); err != api.ErrArg || a != nil {
			t.Error("below 0:", a, err)
		}
	}
}

// R4: a tape tells the same whatever other tapes were asked, ahead and in between.
func TestNothingKept(t *testing.T) {
	all := bytesOf(13, 900)
	want := play(of(t, all...), false)
	other := of(t, bytesOf(14, 900)...)
	x := of(t, all...)
	play(other, true)
	other.Take(math.MaxInt)
	other.Below(api.Nat{0})
	if !sameLists(play(x, false), want) {
		t.Error("a tape hangs on another one")
	}
}

// P1: no call panics, nor does one of a tape that New did not make: it is one of no bytes.
func TestNoTape(t *testing.T) {
	for _, x := range []*Tape{nil, {}} {
		if x.Left() != 0 {
			t.Error("left:", x.Left())
		}
		for _, n := range []int{math.MinInt, -1, 0, 1, 65536, 65537, math.MaxInt} {
			want := api.ErrTapeEnd
			if n < 0 || n > api.MaxTape {
				want = api.ErrArg
			} else if n == 0 {
				want = api.OK
			}
			if b, err := x.Take(n); err != want || len(b) != 0 {
				t.Error("take", n, b, err)
			}
		}
		for _, n := range append(bounds(), wrong()...) {
			want := api.ErrTapeEnd
			if !nat.Right(n) || len(n) == 0 {
				want = api.ErrArg
			} else if slices.Equal(n, api.Nat{1}) {
				want = api.OK
			}
			if a, err := x.Below(n); err != want || len(a) != 0 {
				t.Error("below", n, a, err)
			}
		}
		if a, err := x.Small(2); err != api.ErrTapeEnd || a != 0 {
			t.Error("small:", a, err)
		}
	}
}

// FuzzDraws looks for bytes and a number at which a call panics, or draws another number than another reckoning.
func FuzzDraws(f *testing.F) {
	f.Add([]byte{5, 255, 3}, []byte{4}, 1)
	f.Add([]byte{3, 1}, []byte{3}, 0)
	f.Add([]byte(nil), []byte(nil), -1)
	f.Add(bytes.Repeat([]byte{255}, 1100), nat.Bytes(power(4095, 1)), 65537)
	f.Fuzz(func(t *testing.T, b, bound []byte, count int) {
		if len(b) > api.MaxTape {
			return
		}
		if told, err := of(t, b...).Take(count); err == api.OK && !bytes.Equal(told, b[:count]) {
			t.Error("taken:", told, count)
		}
		if n, err := nat.Read(bound); err == api.OK && len(n) > 0 {
			checkBelow(t, b, n, 10)
		}
	})
}
