package bitset

import (
	"math"
	"slices"
	"testing"

	"windbreak/api"
)

// P14.1: List, Count and Has of many sets.
func TestNumbers(t *testing.T) {
	for _, s := range manySets() {
		checkNumbers(t, s)
	}
	for n := range 200 {
		for i := range n {
			checkNumbers(t, setOf(n, func(j int) bool { return j == i }))
		}
		checkNumbers(t, setOf(n, func(int) bool { return true }))
	}
	r := seeded(2)
	for range 2000 {
		part := 1 + r.IntN(9)
		checkNumbers(t, setOf(r.IntN(400), func(int) bool { return r.IntN(part) == 0 }))
	}
}

// P14.1: every set of few numbers.
func TestAllSmallSets(t *testing.T) {
	for n := range 12 {
		for w := range uint64(1) << (n + 2) {
			checkNumbers(t, api.Bits{N: n, W: []uint64{w}})
		}
	}
}

// P14.1: the empty and the full set.
func TestNumbersOfEmptyAndFull(t *testing.T) {
	for _, n := range bounds() {
		none, _ := New(n)
		if l := List(none); len(l) > 0 || Count(none) != 0 || Has(none, 0) || Has(none, n-1) || Has(none, n) {
			t.Error("the empty one:", n, len(l))
		}
		all, _ := Full(n)
		if l := List(all); !slices.Equal(l, rising(n)) || Count(all) != n || Has(all, 0) != (n > 0) || Has(all, n-1) != (n > 0) || Has(all, n) || Has(all, -1) {
			t.Error("the full one:", n, len(l))
		}
	}
}

// Words and P14.1: a set that may not be has no numbers.
func TestNumbersOfWrongSets(t *testing.T) {
	for _, s := range wrongSets() {
		if l := List(s); l != nil || Count(s) != 0 {
			t.Error("N", s.N, "of", len(s.W), "words:", len(l), Count(s))
		}
		for _, i := range []int{math.MinInt, -64, -1, 0, 1, 63, 64, s.N - 1, s.N, s.N + 1, 65535, 65536, math.MaxInt} {
			if Has(s, i) {
				t.Error("N", s.N, "of", len(s.W), "words: has", i)
			}
		}
	}
	for n := range 130 {
		if n%64 == 0 {
			continue
		}
		s := setOf(n, func(int) bool { return true })
		s.W[n/64] |= 1 << (n % 64)
		checkNumbers(t, s)
	}
}
