package prime

import (
	"math"
	"slices"
	"testing"

	"windbreak/api"
	"windbreak/tape"
)

// R1: with an error all else is the zero value, of whatever arguments, and a tape is left as it was where ErrArg is told.
func TestZeroBesideError(t *testing.T) {
	numbers := append(tooBig(), 0, 1, 2, 3, 4, 9, 251, 2047, last, end-1)
	for _, n := range numbers {
		if is, err := Is(n); err != api.OK && is {
			t.Error("Is", n, err)
		}
		if d, err := Least(n); err != api.OK && d != 0 || err == api.OK && d < 2 {
			t.Error("Least", n, d, err)
		}
		for _, a := range numbers {
			if w, err := Witness(a, n); err != api.OK && w {
				t.Error("Witness", a, n, err)
			}
		}
	}
	for length := range 50 {
		for _, tries := range []int{-1, 0, 1, 3, 10_001} {
			all := bytesOf(uint64(length), 12)
			x, y := of(t, all...), of(t, all...)
			if p, err := Search(x, length, tries); (err == api.OK) != (p != 0) || err == api.ErrArg && x.Left() != 12 {
				t.Error("Search", length, tries, p, err, x.Left())
			}
			if k, err := Pair(y, length, tries); (err == api.OK) != (k != api.Key{}) || err == api.ErrArg && y.Left() != 12 {
				t.Error("Pair", length, tries, k, err, y.Left())
			}
		}
	}
}

// R1: where several errors apply, the one named first is told: ErrArg, even of a tape that ends at once.
func TestFirstError(t *testing.T) {
	empty := of(t)
	for _, c := range []struct {
		length, tries int
		want          api.Errno
	}{
		{7, 1, api.ErrArg}, {41, 1, api.ErrArg}, {8, 0, api.ErrArg}, {40, 10_001, api.ErrArg}, {8, 1, api.ErrTapeEnd}, {40, 10_000, api.ErrTapeEnd},
	} {
		if p, err := Search(empty, c.length, c.tries); err != c.want || p != 0 {
			t.Error("Search", c, p, err)
		}
		if k, err := Pair(empty, c.length, c.tries); err != c.want || k != (api.Key{}) {
			t.Error("Pair", c, k, err)
		}
	}
}

// R2: a tape of nil and one of no bytes are the same.
func TestNilAndEmpty(t *testing.T) {
	for _, b := range [][]byte{nil, {}} {
		x := of(t, b...)
		if p, err := Search(x, 8, 1); err != api.ErrTapeEnd || p != 0 || x.Left() != 0 {
			t.Error(p, err)
		}
	}
}

// R3: bytes of which a tape was made stay as they are, whatever is drawn.
func TestHandedInStays(t *testing.T) {
	all := bytesOf(9, 4000)
	kept := slices.Clone(all)
	x := of(t, all...)
	for length := 8; length <= 40; length++ {
		Search(x, length, 100)
		Pair(x, length, 100)
	}
	if !slices.Equal(all, kept) {
		t.Error("the bytes were changed")
	}
}

// R4: a search hangs on the bytes that it takes alone, not on what other tapes were asked, nor on what was asked before.
func TestNothingKept(t *testing.T) {
	play := func(x *tape.Tape, between func()) []uint64 {
		var l []uint64
		for length := 8; length <= 40; length++ {
			p, err := Search(x, length, 20)
			between()
			k, err2 := Pair(x, length, 20)
			l = append(l, p, uint64(err), k.P, k.Q, uint64(err2), uint64(x.Left()))
		}
		return l
	}
	all := bytesOf(10, 6000)
	want := play(of(t, all...), func() {})
	other := of(t, bytesOf(11, 60_000)...)
	got := play(of(t, all...), func() {
		Search(other, 40, 10)
		Is(last)
		Least(end - 1)
		Witness(2, last)
		Check(api.Key{P: 131, Q: 137})
	})
	if !slices.Equal(got, want) {
		t.Error("a search hangs on others")
	}
}

// P1: no call panics, at no argument; a tape that New did not make is one of no bytes.
func TestNoPanic(t *testing.T) {
	edges := []uint64{0, 1, 2, 3, 127, 128, end - 1, end, end + 1, 1<<63 - 1, 1 << 63, math.MaxUint64}
	for _, a := range edges {
		Is(a)
		Least(a)
		for _, b := range edges {
			Witness(a, b)
			Check(api.Key{P: a, Q: b})
		}
	}
	for _, length := range []int{math.MinInt, -1, 0, 7, 8, 40, 41, math.MaxInt} {
		for _, tries := range []int{math.MinInt, -1, 0, 1, 10_000, 10_001, math.MaxInt} {
			want := api.ErrArg
			if (length == 8 || length == 40) && (tries == 1 || tries == 10_000) {
				want = api.ErrTapeEnd
			}
			if p, err := Search(&tape.Tape{}, length, tries); err != want || p != 0 {
				t.Error("Search", length, tries, p, err)
			}
			if k, err := Pair(&tape.Tape{}, length, tries); err != want || k != (api.Key{}) {
				t.Error("Pair", length, tries, k, err)
			}
		}
	}
}

// FuzzPrimes looks for arguments at which a call panics, or tells something else than another reckoning.
func FuzzPrimes(f *testing.F) {
	f.Add(uint64(2), uint64(2047), []byte{3, 9}, 8, 1)
	f.Add(end, last, []byte(nil), 41, 0)
	f.Add(lastHalf, lastHalf*lastHalf, bytesFor(last, 40), 40, 10_000)
	f.Fuzz(func(t *testing.T, a, n uint64, b []byte, length, tries int) {
		if is, err := Is(n); err == api.OK && is != isPrime(n) {
			t.Error("Is", n, is)
		}
		if _, err := Least(n); err == api.OK {
			checkParts(t, n)
		}
		if _, err := Witness(a, n); err == api.OK {
			checkWitness(t, a, n)
		}
		if err := Check(api.Key{P: a, Q: n}); err != keyFault(a, n) {
			t.Error("Check", a, n, err)
		}
		if len(b) <= api.MaxTape && length >= 8 && length <= 40 && tries >= 1 && tries <= 10_000 {
			checkSearch(t, b, length, tries, 5)
		}
	})
}
