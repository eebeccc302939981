package bitset

import (
	"testing"

	"windbreak/api"
)

// P14.2: of two sets of one N, of all kinds.
func TestPairs(t *testing.T) {
	for _, n := range bounds() {
		if n > 2000 {
			continue
		}
		all := shapes(n)
		for _, a := range all {
			for _, b := range all {
				checkPair(t, a, b)
			}
		}
	}
	for _, n := range []int{65472, 65473, 65535, 65536} {
		all := shapes(n)
		for i, a := range all {
			checkPair(t, a, all[(i*7+3)%len(all)])
			checkPair(t, a, a)
		}
	}
}

// P14.2: at every place of a word, over several words: in both, in one alone, in none.
func TestPairsAtEachPlace(t *testing.T) {
	for _, n := range []int{63, 64, 65, 128, 200} {
		none, all := setOf(n, func(int) bool { return false }), setOf(n, func(int) bool { return true })
		for i := range n {
			one := setOf(n, func(j int) bool { return i == j })
			rest := setOf(n, func(j int) bool { return i != j })
			for _, other := range []api.Bits{none, all, one, rest} {
				checkPair(t, one, other)
				checkPair(t, rest, other)
				checkPair(t, other, one)
			}
		}
	}
}

// P14.2: every two sets of few numbers.
func TestAllSmallPairs(t *testing.T) {
	for n := 1; n <= 5; n++ {
		for v := range uint64(1) << n {
			for w := range uint64(1) << n {
				checkPair(t, api.Bits{N: n, W: []uint64{v}}, api.Bits{N: n, W: []uint64{w}})
			}
		}
	}
	none := api.Bits{}
	checkPair(t, none, none)
	checkPair(t, none, api.Bits{N: 1, W: []uint64{1}})
}

// P14.2: of two alike, of the empty and of the full one, by what is known of them.
func TestPairsOfEmptyAndFull(t *testing.T) {
	for _, s := range manySets() {
		none, _ := New(s.N)
		all, _ := Full(s.N)
		tells := func(what string, call func(a, b api.Bits) (api.Bits, api.Errno), a, b, want api.Bits) {
			t.Helper()
			got, err := call(a, b)
			isTold(t, what, got, err, want)
		}
		tells("And of two alike", And, s, copied(s), s)
		tells("Or of two alike", Or, s, copied(s), s)
		tells("Minus of two alike", Minus, s, copied(s), none)
		tells("And of the empty one", And, s, none, none)
		tells("Or of the empty one", Or, none, s, s)
		tells("Minus of the empty one", Minus, s, none, s)
		tells("from the empty one", Minus, none, s, none)
		tells("And of the full one", And, all, s, s)
		tells("Or of the full one", Or, s, all, all)
		tells("Minus of the full one", Minus, s, all, none)
	}
}

// P14.2: ErrArg, if their N are not the same, as many words as they have.
func TestPairsOfUnlikeBounds(t *testing.T) {
	for _, n := range bounds() {
		for _, m := range bounds() {
			if n == m {
				continue
			}
			for _, p := range pairCalls() {
				s, err := p.call(setOf(n, func(int) bool { return false }), setOf(m, func(int) bool { return false }))
				isWrong(t, p.name+" of unlike ones", s, err)
			}
		}
	}
	a, b := api.Bits{N: 5, W: []uint64{10}}, api.Bits{N: 6, W: []uint64{10}}
	checkPair(t, a, b)
	checkPair(t, b, a)
}

// Words and P14.2: ErrArg, if one may not be, whichever, and if both may not.
func TestPairsOfWrongSets(t *testing.T) {
	for _, s := range wrongSets() {
		others := []api.Bits{copied(s), {}, {N: 5, W: []uint64{10}}}
		if s.N >= 0 && s.N <= 65536 {
			others = append(others, setOf(s.N, func(int) bool { return true }), setOf(s.N, func(int) bool { return false }))
		}
		for _, other := range others {
			for _, p := range pairCalls() {
				got, err := p.call(s, other)
				isWrong(t, p.name, got, err)
				got, err = p.call(other, s)
				isWrong(t, p.name, got, err)
			}
		}
	}
}
