package bitset

import (
	"fmt"
	"math"
	"slices"
	"sync"
	"testing"

	"windbreak/api"
)

// spoil overwrites all that an answer could reach, behind its end too.
func spoil[T int | uint64](l []T) {
	l = l[:cap(l)]
	for i := range l {
		l[i] ^= 0x55
	}
	_ = append(l, 9, 9, 9)
}

// R3: sets that are handed in stay as they are, behind their end too, be they such as may be or not.
func TestSetsStay(t *testing.T) {
	for _, n := range []int{1, 5, 63, 64, 65, 130, 256} {
		for _, s := range shapes(n) {
			given := append(slices.Clone(s.W), 7, 8, 9)
			all := slices.Clone(given)
			for words := range len(given) + 1 {
				a := api.Bits{N: n, W: given[:words]}
				Right(a)
				spoil(List(a))
				Has(a, 0)
				Has(a, n)
				Count(a)
				for _, p := range pairCalls() {
					p.call(a, a)
					told, _ := p.call(a, s)
					spoil(told.W)
					told, _ = p.call(s, a)
					spoil(told.W)
				}
				if !slices.Equal(given, all) {
					t.Fatal("changed:", n, words)
				}
			}
		}
	}
}

// R3: a list that is handed in stays as it is, with right numbers and with wrong ones, and no set hangs on it.
func TestListStays(t *testing.T) {
	all := []int{70, 3, 1, 3, 69, -1, 3, 1 << 40}
	for count := range len(all) + 1 {
		given := slices.Clone(all)
		s, _ := Of(71, given[:count])
		want := copied(s)
		if !slices.Equal(given, all) {
			t.Fatal("changed:", given)
		}
		spoil(given)
		if !same(s, want) {
			t.Fatal("a set hangs on the list:", s)
		}
		spoil(s.W)
		if again, _ := Of(71, all[:count]); !same(again, want) {
			t.Fatal("another set hangs on the answer:", again)
		}
	}
}

// R3: what is told is the caller's own: no set that was handed in hangs on it, nor on such a one, nor another answer.
func TestToldIsOwn(t *testing.T) {
	for _, n := range []int{1, 63, 64, 65, 130} {
		all, _ := Full(n)
		none, _ := New(n)
		for _, p := range pairCalls() {
			for _, two := range [][2]api.Bits{{all, none}, {none, all}, {all, all}, {none, none}} {
				a, b := copied(two[0]), copied(two[1])
				first, _ := p.call(a, b)
				second, _ := p.call(a, b)
				want := copied(second)
				spoil(first.W)
				if !same(a, two[0]) || !same(b, two[1]) || !same(second, want) {
					t.Fatal(p.name, "shares what is told:", n)
				}
				spoil(a.W)
				spoil(b.W)
				if !same(second, want) {
					t.Fatal(p.name, "shares what was handed in:", n)
				}
			}
		}
		spoil(all.W)
		spoil(none.W)
		all, _ = Full(n)
		none, _ = New(n)
		if Count(all) != n || Count(none) != 0 {
			t.Fatal("New or Full shares:", n)
		}
		first, second := List(all), List(all)
		spoil(first)
		if !slices.Equal(second, rising(n)) || Count(all) != n {
			t.Fatal("List shares:", n)
		}
	}
}

// R2: nil and empty are the same, handed in and out.
func TestNilAndEmpty(t *testing.T) {
	for _, w := range [][]uint64{nil, {}, make([]uint64, 0, 3)} {
		s := api.Bits{W: w}
		checkNumbers(t, s)
		checkPair(t, s, api.Bits{})
		checkPair(t, api.Bits{W: []uint64{}}, s)
		checkNumbers(t, api.Bits{N: 1, W: w})
	}
}

// told is all that calls tell of some sets, one behind the other.
func told() string {
	var all string
	for _, n := range []int{-1, 0, 5, 64, 130, 65537} {
		x, err1 := New(n)
		y, err2 := Full(n)
		z, err3 := Of(n, []int{4, 0, 4, 3})
		all += fmt.Sprintln(x, y, z, err1, err2, err3, Right(x), Right(y))
		for _, s := range []api.Bits{x, y, z} {
			all += fmt.Sprintln(List(s), Count(s), Has(s, 3), Has(s, 64))
			for _, p := range pairCalls() {
				got, err := p.call(s, z)
				all += fmt.Sprintln(got, err)
			}
		}
	}
	return all
}

// R4: the same is told whatever was asked ahead, and by many that ask at one time.
func TestNothingKept(t *testing.T) {
	want := told()
	Full(65536)
	Of(9, []int{9})
	List(api.Bits{N: 3, W: []uint64{8}})
	if told() != want {
		t.Error("another answer behind other calls")
	}
	var wait sync.WaitGroup
	var all [8]string
	for i := range all {
		wait.Go(func() { all[i] = told() })
	}
	wait.Wait()
	for i := range all {
		if all[i] != want {
			t.Error("another answer at one time with others")
		}
	}
}

// P1: no call panics, whatever it is given.
func TestAnyArguments(t *testing.T) {
	r := seeded(5)
	ends := append(append(noBounds(), bounds()...), math.MaxInt32, math.MinInt32)
	some := func() int {
		if r.IntN(2) == 0 {
			return ends[r.IntN(len(ends))]
		}
		return r.IntN(200) - 20
	}
	anySet := func() api.Bits {
		s := api.Bits{N: some(), W: make([]uint64, r.IntN(5))}
		for i := range s.W {
			s.W[i] = r.Uint64() >> r.IntN(65)
		}
		return s
	}
	for range 20000 {
		a, b := anySet(), anySet()
		if r.IntN(2) == 0 {
			b.N = a.N
		}
		checkPair(t, a, b)
		if Right(a) != allowed(a) || Has(a, some()) && !allowed(a) || !slices.Equal(List(a), numbersOf(a)) {
			t.Fatal("a set:", a)
		}
		if s, err := Of(some(), []int{some(), some()}); (err == api.OK) != (s.W != nil) || !Right(s) {
			t.Fatal("Of:", s, err)
		}
	}
}

// FuzzSets looks for sets at which a call panics, or tells another thing than another reckoning.
func FuzzSets(f *testing.F) {
	f.Add(5, uint64(10), uint64(0), uint64(3), uint8(1), 3)
	f.Add(65, uint64(math.MaxUint64), uint64(1), uint64(2), uint8(2), 64)
	f.Add(128, uint64(1), uint64(math.MaxUint64), uint64(1<<63), uint8(2), -1)
	f.Add(0, uint64(0), uint64(0), uint64(0), uint8(0), 0)
	f.Add(math.MaxInt, uint64(0), uint64(0), uint64(0), uint8(0), math.MinInt)
	f.Fuzz(func(t *testing.T, n int, u, v, w uint64, words uint8, i int) {
		a := api.Bits{N: n, W: []uint64{u, v}[:words%3]}
		b := api.Bits{N: n, W: []uint64{w, u}[:words%3]}
		checkNumbers(t, a)
		checkPair(t, a, b)
		checkPair(t, b, a)
		if Has(a, i) != slices.Contains(numbersOf(a), i) {
			t.Error("has", i)
		}
		s, err := Of(n, []int{i, 0})
		if right := n > 0 && n <= 65536 && i >= 0 && i < n; !right {
			isWrong(t, "Of", s, err)
		} else {
			isTold(t, "Of", s, err, setOf(n, func(j int) bool { return j == i || j == 0 }))
			checkList(t, s)
		}
		if Right(a) && Right(b) {
			checkParts(t, a, b)
		}
	})
}
