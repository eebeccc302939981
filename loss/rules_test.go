package loss

import (
	"math"
	"math/rand/v2"
	"slices"
	"strconv"
	"sync"
	"testing"

	"windbreak/api"
)

// told is all that calls tell of some configurations, scores, labels and sums, one behind the other.
func told() string {
	r := seeded(8)
	var all string
	for range 200 {
		c := someConfig(r)
		g, err1 := Grad(c, within(r, 1<<21), within(r, 1<<20))
		w, err2 := Weight(c, api.Sum{G: within(r, 1<<40), H: r.IntN(300)})
		for _, n := range []int{g, int(err1), w, int(err2)} {
			all += strconv.Itoa(n) + " "
		}
		all += strconv.FormatBool(Right(c)) + "\n"
	}
	return all
}

// R4: the same is told whatever was asked ahead, and by many that ask at one time.
func TestNothingKept(t *testing.T) {
	want := told()
	for _, c := range wrongConfigs() {
		Right(c)
		Grad(c, 1, 2)
		Weight(c, api.Sum{G: 1, H: 2})
	}
	if told() != want {
		t.Error("another answer behind other calls")
	}
	var wait sync.WaitGroup
	var all [8]string
	for i := range all {
		wait.Go(func() { all[i] = told() })
	}
	wait.Wait()
	for i := range all {
		if all[i] != want {
			t.Error("another answer at one time with others")
		}
	}
}

// checkAny asks all calls of a configuration and two numbers against the other reckonings, and, where they may be, for the theorem.
func checkAny(t testing.TB, c api.Config, a, b int) {
	t.Helper()
	checkRight(t, c)
	checkGrad(t, c, a, b)
	checkWeight(t, c, api.Sum{G: a, H: b})
	if _, err := Grad(c, a, b); err == api.OK {
		scores := []int{-1 << 40, 0, a, b, 1 << 40}
		slices.Sort(scores)
		checkRising(t, c, b, scores)
	}
	if _, err := Weight(c, api.Sum{G: a, H: b}); err == api.OK {
		checkSide(t, c, api.Sum{G: a, H: b})
	}
}

// anyNumber is small, about an edge, far out of range, or anything.
func anyNumber(r *rand.Rand) int {
	edges := []int{math.MinInt, -1 << 40, -1 << 20, 0, 1, 5, 16, 1 << 20, 1 << 40, math.MaxInt}
	switch r.IntN(4) {
	case 0:
		return edges[r.IntN(len(edges))]
	case 1:
		return edges[r.IntN(len(edges))] + r.IntN(5) - 2
	case 2:
		return far()[r.IntN(len(far()))]
	}
	return r.IntN(40) - 20
}

// P1: no call panics, whatever it is given.
func TestAnyArguments(t *testing.T) {
	r := seeded(9)
	for range 20000 {
		c := api.Config{Trees: anyNumber(r), Depth: anyNumber(r), Lambda: anyNumber(r), Gamma: anyNumber(r), Num: anyNumber(r), Den: anyNumber(r), Loss: anyNumber(r), Clip: anyNumber(r)}
		checkAny(t, c, anyNumber(r), anyNumber(r))
		checkAny(t, someConfig(r), anyNumber(r), anyNumber(r))
		c = someConfig(r)
		f := fields(c)[r.IntN(8)]
		checkAny(t, with(c, f, anyNumber(r)), anyNumber(r), anyNumber(r))
	}
}

// FuzzLosses looks for arguments at which a call panics, or tells another thing than another reckoning.
func FuzzLosses(f *testing.F) {
	f.Add(1, 1, 1, 0, 1, 2, 0, 0, 7, 3)
	f.Add(1, 1, 1, 0, 1, 2, 1, 2, -7, 3)
	f.Add(16, 5, 1<<20, 1<<20, 1<<20, 1<<20, 1, 1<<20, 1<<40, 1<<20)
	f.Add(0, 6, 0, -1, 3, 2, 2, -1, math.MinInt, math.MaxInt)
	f.Fuzz(func(t *testing.T, trees, depth, lambda, gamma, num, den, loss, clip, a, b int) {
		checkAny(t, api.Config{Trees: trees, Depth: depth, Lambda: lambda, Gamma: gamma, Num: num, Den: den, Loss: loss, Clip: clip}, a, b)
	})
}
