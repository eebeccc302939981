package bitset

import (
	"math"
	"math/rand/v2"
	"slices"
	"testing"

	"windbreak/api"
)

// seeded is a source that is the same for the same seed.
func seeded(seed uint64) *rand.Rand { return rand.New(rand.NewPCG(seed, 14)) }

// bounds are such as a set may have: the least, the greatest, and those beside whole words.
func bounds() []int {
	return []int{0, 1, 2, 3, 5, 62, 63, 64, 65, 66, 127, 128, 129, 130, 191, 192, 193, 256, 320, 1000, 65471, 65472, 65473, 65535, 65536}
}

// noBounds are such as no set may have.
func noBounds() []int {
	return []int{math.MinInt, math.MinInt + 63, -1 << 32, -65536, -65, -64, -63, -2, -1, 65537, 65538, 65600, 65601, 131072, 1 << 31, 1 << 32, 1<<32 + 5, 1<<32 + 64, math.MaxInt - 63, math.MaxInt - 62, math.MaxInt}
}

// allowed is whether a set may be, by the document's words, number by number.
func allowed(s api.Bits) bool {
	if s.N < 0 || s.N > 65536 || len(s.W) != (s.N+63)/64 {
		return false
	}
	for i := s.N; i < 64*len(s.W); i++ {
		if isSet(s, i) {
			return false
		}
	}
	return true
}

// isSet is whether the bit of a number is set, be the set one that may be or not.
func isSet(s api.Bits, i int) bool {
	power := uint64(1) << (i % 64)
	return s.W[i/64]/power%2 == 1
}

// numbersOf are those of a set, by the document's words.
func numbersOf(s api.Bits) []int {
	var l []int
	if !allowed(s) {
		return nil
	}
	for i := range s.N {
		if isSet(s, i) {
			l = append(l, i)
		}
	}
	return l
}

// setOf is the set of the numbers below n of which has says so, by the document's words.
func setOf(n int, has func(i int) bool) api.Bits {
	s := api.Bits{N: n, W: make([]uint64, (n+63)/64)}
	for k := range s.W {
		power := uint64(1)
		for i := 64 * k; i < min(64*k+64, n); i++ {
			if has(i) {
				s.W[k] += power
			}
			power *= 2
		}
	}
	return s
}

// shapes are sets of each bound: the empty one, the full one, single numbers at the ends and the words' edges, and by chance many numbers and few.
func shapes(n int) []api.Bits {
	r := seeded(uint64(n))
	all := []api.Bits{
		setOf(n, func(int) bool { return false }),
		setOf(n, func(int) bool { return true }),
		setOf(n, func(i int) bool { return i%2 == 0 }),
		setOf(n, func(i int) bool { return i%2 == 1 }),
		setOf(n, func(i int) bool { return i < n/2 }),
		setOf(n, func(i int) bool { return i/64%2 == 0 }),
	}
	for _, place := range []int{0, 1, 62, 63, 64, 65, 127, 128, n / 2, n - 2, n - 1} {
		if place < n {
			all = append(all, setOf(n, func(i int) bool { return i == place }), setOf(n, func(i int) bool { return i != place }))
		}
	}
	for _, part := range []int{2, 3, 10, 100} {
		all = append(all, setOf(n, func(int) bool { return r.IntN(part) == 0 }))
	}
	return all
}

// manySets are the shapes of all bounds.
func manySets() []api.Bits {
	var all []api.Bits
	for _, n := range bounds() {
		all = append(all, shapes(n)...)
	}
	return all
}

// wrongSets are such as may not be, each for one reason alone, or for several.
func wrongSets() []api.Bits {
	var all []api.Bits
	for _, n := range noBounds() {
		all = append(all, api.Bits{N: n}, api.Bits{N: n, W: []uint64{1}}, api.Bits{N: n, W: make([]uint64, 1024)}, api.Bits{N: n, W: make([]uint64, 1025)})
	}
	for _, n := range bounds() {
		words := (n + 63) / 64
		for _, w := range []uint64{0, 1, math.MaxUint64} {
			more := make([]uint64, words+1)
			more[words] = w
			all = append(all, api.Bits{N: n, W: more})
		}
		if n == 0 {
			continue
		}
		all = append(all, api.Bits{N: n, W: make([]uint64, words-1)}, api.Bits{N: n})
		for i := n; i < 64*words; i++ {
			over := make([]uint64, words)
			over[words-1] = 1 << (i % 64)
			all = append(all, api.Bits{N: n, W: over})
			over = slices.Clone(over)
			over[0] |= 1
			all = append(all, api.Bits{N: n, W: over})
		}
	}
	return all
}

// copied is a set in memory of its own.
func copied(s api.Bits) api.Bits { return api.Bits{N: s.N, W: slices.Clone(s.W)} }

// same is whether two are the same set, be a list nil or empty.
func same(a, b api.Bits) bool { return a.N == b.N && slices.Equal(a.W, b.W) }

// brief tells a set shortly.
func brief(s api.Bits) api.Bits { return api.Bits{N: s.N, W: s.W[:min(len(s.W), 5)]} }

// isTold asks of an answer that it is a set, and just this one.
func isTold(t testing.TB, what string, got api.Bits, err api.Errno, want api.Bits) {
	t.Helper()
	if err != api.OK || !same(got, want) {
		t.Errorf("%s: %v, error %d, asked %v", what, brief(got), err, brief(want))
	}
}

// isWrong asks of an answer that it is ErrArg, and nothing beside it.
func isWrong(t testing.TB, what string, got api.Bits, err api.Errno) {
	t.Helper()
	if err != api.ErrArg || got.N != 0 || got.W != nil {
		t.Errorf("%s: %v, error %d, asked ErrArg and no set", what, brief(got), err)
	}
}

// checkNumbers asks Right, List, Count and Has of a set, against the other reckoning.
func checkNumbers(t testing.TB, s api.Bits) {
	t.Helper()
	if got, want := Right(s), allowed(s); got != want {
		t.Errorf("%v: right %v, asked %v", brief(s), got, want)
	}
	want := numbersOf(s)
	if got := List(s); !slices.Equal(got, want) {
		t.Errorf("%v: %d numbers, asked %d", brief(s), len(got), len(want))
	}
	if got := Count(s); got != len(want) {
		t.Errorf("%v: count %d, asked %d", brief(s), got, len(want))
	}
	checkHas(t, s, want)
}

// checkHas asks Has of all numbers that a set could have, and of ones beyond.
func checkHas(t testing.TB, s api.Bits, l []int) {
	t.Helper()
	end := 64*len(s.W) + 70
	in := make([]bool, end)
	for _, i := range l {
		in[i] = true
	}
	for i := range end {
		if got := Has(s, i); got != in[i] {
			t.Fatalf("%v: has %d: %v", brief(s), i, got)
		}
	}
	for _, i := range []int{math.MinInt, math.MinInt + 64, -1 << 32, -65536, -129, -128, -65, -64, -63, -2, -1, 1 << 31, 1 << 32, 1<<32 + 1, math.MaxInt - 63, math.MaxInt} {
		if Has(s, i) {
			t.Errorf("%v: has %d", brief(s), i)
		}
	}
}

// pairCall is a function of two sets, and what is in its answer.
type pairCall struct {
	name string
	call func(a, b api.Bits) (api.Bits, api.Errno)
	has  func(inA, inB bool) bool
}

func pairCalls() []pairCall {
	return []pairCall{
		{"And", And, func(inA, inB bool) bool { return inA && inB }},
		{"Or", Or, func(inA, inB bool) bool { return inA || inB }},
		{"Minus", Minus, func(inA, inB bool) bool { return inA && !inB }},
	}
}

// checkPair asks all functions of two sets, against the other reckoning.
func checkPair(t testing.TB, a, b api.Bits) {
	t.Helper()
	right := allowed(a) && allowed(b) && a.N == b.N
	for _, p := range pairCalls() {
		got, err := p.call(a, b)
		if !right {
			isWrong(t, p.name, got, err)
			continue
		}
		isTold(t, p.name, got, err, setOf(a.N, func(i int) bool { return p.has(isSet(a, i), isSet(b, i)) }))
	}
}
