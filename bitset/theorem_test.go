package bitset

import (
	"slices"
	"testing"

	"windbreak/api"
)

// checkList asks of a set that Of of List is the set, and that Count is how long List is.
func checkList(t testing.TB, s api.Bits) {
	t.Helper()
	l := List(s)
	if Count(s) != len(l) {
		t.Errorf("%v: count %d, but %d numbers", brief(s), Count(s), len(l))
	}
	if !slices.IsSorted(l) || len(slices.Compact(slices.Clone(l))) != len(l) {
		t.Errorf("%v: not rising", brief(s))
	}
	again, err := Of(s.N, l)
	isTold(t, "Of of List", again, err, s)
}

// checkParts asks of two sets that what is in a and b, and what is in a and not in b, have no number in common, and are a together.
func checkParts(t testing.TB, a, b api.Bits) {
	t.Helper()
	both, err1 := And(a, b)
	alone, err2 := Minus(a, b)
	if err1 != api.OK || err2 != api.OK || !Right(both) || !Right(alone) {
		t.Fatalf("%v and %v: errors %d, %d", brief(a), brief(b), err1, err2)
	}
	common, err := And(both, alone)
	none, _ := New(a.N)
	isTold(t, "in common", common, err, none)
	whole, err := Or(both, alone)
	isTold(t, "together", whole, err, a)
	if Count(both)+Count(alone) != Count(a) {
		t.Errorf("%d and %d of %d", Count(both), Count(alone), Count(a))
	}
	for _, i := range List(a) {
		if Has(both, i) != Has(b, i) || Has(alone, i) == Has(b, i) {
			t.Fatalf("%v and %v: %d is in the wrong part", brief(a), brief(b), i)
		}
	}
	checkList(t, both)
	checkList(t, alone)
}

// P14.3: over many sets.
func TestTheorem(t *testing.T) {
	for _, n := range bounds() {
		all := shapes(n)
		for i, a := range all {
			checkList(t, a)
			if n > 2000 {
				checkParts(t, a, all[(i*5+2)%len(all)])
				continue
			}
			for _, b := range all {
				checkParts(t, a, b)
			}
		}
	}
	r := seeded(3)
	for range 5000 {
		n, p, q := r.IntN(300), 1+r.IntN(6), 1+r.IntN(6)
		a := setOf(n, func(int) bool { return r.IntN(p) == 0 })
		b := setOf(n, func(int) bool { return r.IntN(q) == 0 })
		checkList(t, a)
		checkParts(t, a, b)
	}
}

// P14.3: over all sets of few numbers, and all two of them.
func TestTheoremOfSmallSets(t *testing.T) {
	for n := 1; n <= 6; n++ {
		for v := range uint64(1) << n {
			a := api.Bits{N: n, W: []uint64{v}}
			checkList(t, a)
			for w := range uint64(1) << n {
				checkParts(t, a, api.Bits{N: n, W: []uint64{w}})
			}
		}
	}
	checkList(t, api.Bits{})
	checkParts(t, api.Bits{}, api.Bits{})
}

// P14.3: what Of made of any numbers that may be is a set, whose List is those numbers, rising, each once.
func TestListOfOf(t *testing.T) {
	r := seeded(4)
	for range 5000 {
		n := 1 + r.IntN(1000)
		l := make([]int, r.IntN(60))
		for i := range l {
			l[i] = r.IntN(n)
		}
		s, err := Of(n, l)
		if err != api.OK || !Right(s) {
			t.Fatal("Of:", n, l, err)
		}
		slices.Sort(l)
		if want := slices.Compact(l); !slices.Equal(List(s), want) {
			t.Fatal("List of Of:", List(s), want)
		}
	}
}
