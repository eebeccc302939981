package bitset

import (
	"math"
	"slices"
	"testing"

	"windbreak/api"
)

// P14.1: which sets may be.
func TestRight(t *testing.T) {
	for _, s := range manySets() {
		if !Right(s) {
			t.Error("may be:", brief(s))
		}
	}
	for _, s := range wrongSets() {
		if Right(s) {
			t.Error("may not be:", s.N, len(s.W))
		}
	}
}

// P14.1: N is 0 to 65536.
func TestRightOfBounds(t *testing.T) {
	for n, want := range map[int]bool{-1: false, 0: true, 65536: true, 65537: false, 131072: false, -64: false, math.MaxInt: false, math.MinInt: false} {
		for _, words := range []int{0, 1, 2, 1023, 1024, 1025, 2048} {
			if got := Right(api.Bits{N: n, W: make([]uint64, words)}); got != (want && words == n/64) {
				t.Error("N", n, "of", words, "words:", got)
			}
		}
	}
}

// P14.1: W has (N + 63) / 64 numbers, no more and no fewer.
func TestRightOfWords(t *testing.T) {
	for n := range 600 {
		for words := range 12 {
			asked := n > 64*(words-1) && n <= 64*words
			if got := Right(api.Bits{N: n, W: make([]uint64, words)}); got != asked {
				t.Error("N", n, "of", words, "words:", got)
			}
		}
	}
}

// P14.1: no bit of a number from N on is set; each of one below may be.
func TestRightOfBits(t *testing.T) {
	for n := 1; n <= 260; n++ {
		words := (n + 63) / 64
		for i := range 64 * words {
			s := api.Bits{N: n, W: make([]uint64, words)}
			s.W[i/64] = 1 << (i % 64)
			if got := Right(s); got != (i < n) {
				t.Error("N", n, "with the bit of", i, got)
			}
		}
	}
	most := api.Bits{N: 65535, W: make([]uint64, 1024)}
	most.W[1023] = math.MaxUint64
	if Right(most) {
		t.Error("N 65535 with the bit of 65535")
	}
	most.N++
	if !Right(most) {
		t.Error("N 65536 with the bit of 65535")
	}
}

// P14.1: New has no number, Full all that are below n.
func TestNewAndFull(t *testing.T) {
	for _, n := range append(bounds(), rising(700)...) {
		s, err := New(n)
		isTold(t, "New", s, err, setOf(n, func(int) bool { return false }))
		s, err = Full(n)
		isTold(t, "Full", s, err, setOf(n, func(int) bool { return true }))
	}
	for _, n := range noBounds() {
		s, err := New(n)
		isWrong(t, "New", s, err)
		s, err = Full(n)
		isWrong(t, "Full", s, err)
	}
}

// rising are the numbers below n.
func rising(n int) []int {
	l := make([]int, n)
	for i := range l {
		l[i] = i
	}
	return l
}

// P14.1: Of has just the numbers of a list, in whichever order, each once.
func TestOf(t *testing.T) {
	r := seeded(1)
	for _, s := range manySets() {
		l := numbersOf(s)
		r.Shuffle(len(l), func(i, j int) { l[i], l[j] = l[j], l[i] })
		got, err := Of(s.N, l)
		isTold(t, "Of", got, err, s)
		got, err = Of(s.N, slices.Concat(l, l[:len(l)/2], l))
		isTold(t, "Of, with numbers twice", got, err, s)
	}
	for n := 1; n <= 200; n++ {
		for i := range n {
			got, err := Of(n, []int{i})
			isTold(t, "Of of one", got, err, setOf(n, func(j int) bool { return i == j }))
			got, err = Of(n, []int{i, i, i})
			isTold(t, "Of of one, three times", got, err, setOf(n, func(j int) bool { return i == j }))
		}
	}
	for _, n := range bounds() {
		for _, l := range [][]int{nil, {}, make([]int, 0, 3)} {
			got, err := Of(n, l)
			isTold(t, "Of of none", got, err, setOf(n, func(int) bool { return false }))
		}
	}
}

// P14.1: Of is ErrArg of a bound that may not be, whatever the numbers are.
func TestOfWrongBounds(t *testing.T) {
	for _, n := range noBounds() {
		for _, l := range [][]int{nil, {}, {0}, {1}, {-1}, {n}, {n - 1}, {3, 1, 3}} {
			got, err := Of(n, l)
			isWrong(t, "Of", got, err)
		}
	}
}

// P14.1: Of is ErrArg of a number that is not from 0 to n - 1, wherever it stands.
func TestOfWrongNumbers(t *testing.T) {
	for _, n := range bounds() {
		for _, wrong := range []int{math.MinInt, -1 << 32, -65536, -64, -63, -1, n, n + 1, n + 63, n + 64, 65536, 1 << 31, 1 << 32, 1<<32 + 1, math.MaxInt - 63, math.MaxInt} {
			lists := [][]int{{wrong}, {wrong, wrong}}
			if n > 0 {
				lists = append(lists, []int{wrong, 0}, []int{0, wrong}, []int{n - 1, wrong, 0}, append(rising(min(n, 300)), wrong))
			}
			for _, l := range lists {
				got, err := Of(n, l)
				isWrong(t, "Of", got, err)
			}
		}
	}
}

// The document's examples.
func TestExamples(t *testing.T) {
	s, err := Of(5, []int{3, 1, 3})
	isTold(t, "Of(5, 3 1 3)", s, err, api.Bits{N: 5, W: []uint64{10}})
	if l := List(s); !slices.Equal(l, []int{1, 3}) {
		t.Error("its numbers:", l)
	}
	a, _ := Full(3)
	b, _ := Of(3, []int{1})
	d, err := Minus(a, b)
	if l := List(d); err != api.OK || !slices.Equal(l, []int{0, 2}) {
		t.Error("Minus(Full(3), Of(3, 1)):", l, err)
	}
}
