package gain

import (
	"fmt"
	"math"
	"math/rand/v2"
	"slices"
	"sync"
	"testing"

	"windbreak/api"
)

// spoil overwrites all that a list could reach, behind its end too.
func spoil[T int | uint64](l []T) {
	l = l[:cap(l)]
	for i := range l {
		l[i] ^= 0x55
	}
	_ = append(l, 9, 9, 9)
}

// told is all that calls tell of some sums, one behind the other.
func told() string {
	r := seeded(8)
	var text string
	for i := range 200 {
		lambda, all := someLambda(r), someAll(r)
		left := someLeft(r, all)
		score, err1 := Score(lambda, all)
		gain, err2 := Gain(lambda, left, all)
		best, err3 := Best(lambda, i%7, all, someLefts(r, all, r.IntN(20), i%2 == 0))
		text += fmt.Sprintln(score, err1, gain, err2, best, err3)
	}
	return text
}

// R2: no lefts are the same, nil and empty, handed in and out.
func TestNilAndEmpty(t *testing.T) {
	for _, gamma := range []int{-1, 0, end, end + 1} {
		for _, all := range []api.Sum{pair(), {}, {H: -1}} {
			a, err1 := Best(1, gamma, all, nil)
			b, err2 := Best(1, gamma, all, []api.Sum{})
			c, err3 := Best(1, gamma, all, ones(4)[:0])
			if len(a)+len(b)+len(c) > 0 || err1 != err2 || err2 != err3 {
				t.Errorf("gamma %d, all %+v: errors %d, %d, %d", gamma, all, err1, err2, err3)
			}
		}
	}
}

// R3: lefts that are handed in stay as they are, behind their end too, with a wrong one among them too.
func TestLeftsStay(t *testing.T) {
	for _, last := range []api.Sum{{G: 4, H: 1}, {G: 5, H: 1}, {G: 9, H: 2}, {G: endG + 1, H: 1}, {H: -1}} {
		lefts := append(ones(4, -4, 1), last, sum(71, 1), sum(72, 1))[:4]
		before := fmt.Sprint(lefts[:cap(lefts)])
		for _, gamma := range []int{-1, 0, 16, 25} {
			for count := range 5 {
				places, _ := Best(1, gamma, pair(), lefts[:count])
				spoil(places)
				if fmt.Sprint(lefts[:cap(lefts)]) != before {
					t.Fatal("changed:", lefts)
				}
			}
		}
	}
}

// R3: what is told is the caller's own: spoilt, it changes no other answer, nor its own other part.
func TestAnswersAreOwn(t *testing.T) {
	want := told()
	for _, lambda := range rightLambdas() {
		for _, all := range rightSums() {
			for _, left := range []api.Sum{{}, all, {G: all.G / 2, H: all.H / 2}} {
				a, _ := Gain(lambda, left, all)
				b, _ := Gain(lambda, left, all)
				c, _ := Score(lambda, all)
				d, _ := Score(lambda, all)
				den := slices.Clone(a.Den)
				spoil(a.Num.Mag)
				if !slices.Equal(a.Den, den) {
					t.Errorf("lambda %d, left %+v of %+v: both parts share", lambda, left, all)
				}
				spoil(a.Den)
				den = slices.Clone(c.Den)
				spoil(c.Num.Mag)
				if !slices.Equal(c.Den, den) {
					t.Errorf("lambda %d, %+v: both parts share", lambda, all)
				}
				spoil(c.Den)
				isFrac(t, "Gain", b, api.OK, gainOf(lambda, left, all))
				isFrac(t, "Score", d, api.OK, scoreOf(lambda, all))
			}
		}
	}
	lefts := ones(4, 1, -4, 4)
	a, _ := Best(1, 0, pair(), lefts)
	b, _ := Best(1, 0, pair(), lefts)
	spoil(a)
	if !slices.Equal(b, []int{0, 2, 3}) {
		t.Error("another answer was changed:", b)
	}
	if told() != want {
		t.Error("other answers behind spoilt ones")
	}
}

// R4: the same is told whatever was asked ahead, and by many that ask at one time.
func TestNothingKept(t *testing.T) {
	want := told()
	for _, wrong := range wrongSums() {
		Score(1, wrong)
		Gain(1, wrong, wrong)
		Best(1, 0, wrong, []api.Sum{wrong})
	}
	if told() != want {
		t.Error("another answer behind other calls")
	}
	var wait sync.WaitGroup
	var all [8]string
	for i := range all {
		wait.Go(func() { all[i] = told() })
	}
	wait.Wait()
	for i := range all {
		if all[i] != want {
			t.Error("another answer at one time with others")
		}
	}
}

// checkAny asks all calls of any numbers against the other reckoning, and for the theorem.
func checkAny(t testing.TB, lambda, gamma int, all api.Sum, lefts []api.Sum) {
	t.Helper()
	checkScore(t, lambda, all)
	for _, left := range lefts {
		checkGain(t, lambda, left, all)
		if maySplit(left, all) {
			checkExchanged(t, lambda, left, all)
		}
	}
	if mayLambda(lambda) && maySum(all) {
		checkOfNone(t, lambda, all)
	}
	checkBest(t, lambda, gamma, all, lefts)
	turned := rising(0, len(lefts))
	slices.Reverse(turned)
	checkOrder(t, lambda, gamma, all, lefts, turned)
}

// anyNumber is small, about an edge, far out of range, or such as may be.
func anyNumber(r *rand.Rand) int {
	edges := []int{math.MinInt, -1 << 40, -1 << 20, 0, 1, 1 << 20, 1 << 40, math.MaxInt}
	switch r.IntN(5) {
	case 0:
		return edges[r.IntN(len(edges))]
	case 1:
		return edges[r.IntN(len(edges))] + r.IntN(5) - 2
	case 2:
		return far()[r.IntN(len(far()))]
	case 3:
		return within(r, 1<<40)
	}
	return r.IntN(40) - 20
}

// P1: no call panics, whatever it is given.
func TestAnyArguments(t *testing.T) {
	r := seeded(9)
	anySum := func() api.Sum { return sum(anyNumber(r), anyNumber(r)) }
	for range 10000 {
		checkAny(t, anyNumber(r), anyNumber(r), anySum(), []api.Sum{anySum()})
		checkAny(t, 1+r.IntN(3), r.IntN(3), anySum(), []api.Sum{anySum(), anySum()})
		all := someAll(r)
		checkAny(t, anyNumber(r), anyNumber(r), all, someLefts(r, all, r.IntN(4), true))
		checkAny(t, someLambda(r), upTo(r, end), all, append(someLefts(r, all, r.IntN(4), true), anySum()))
	}
}

// FuzzSplits looks for arguments at which a call panics, or tells another thing than another reckoning.
func FuzzSplits(f *testing.F) {
	f.Add(1, 0, 0, 2, 4, 1, -4, 1)
	f.Add(1, 16, 0, 2, 4, 1, 5, 1)
	f.Add(100, 494144, 0, 6305, 26021, 1862, 26021, 4443)
	f.Add(1<<20, 1<<20, 1<<40, 1<<20, 1<<40, 1<<20, 0, 1)
	f.Add(0, -1, math.MinInt, math.MaxInt, math.MaxInt, math.MinInt, 1<<40+1, -1)
	f.Fuzz(func(t *testing.T, lambda, gamma, g, h, g1, h1, g2, h2 int) {
		checkAny(t, lambda, gamma, sum(g, h), []api.Sum{sum(g1, h1), sum(g2, h2), sum(g1, h1), {}})
	})
}
