package gain

import (
	"math/big"
	"slices"
	"testing"

	"windbreak/api"
)

// pair is the sums of two rows that are 0 together: of lambda 1, one of them to the left, with n, is a Gain of n times n.
func pair() api.Sum { return sum(0, 2) }

// ones are left rows' sums of pair, of each of these n.
func ones(all ...int) []api.Sum {
	var l []api.Sum
	for _, n := range all {
		l = append(l, sum(n, 1))
	}
	return l
}

// rising are so many numbers, one above the other.
func rising(least, count int) []int {
	l := make([]int, count)
	for i := range l {
		l[i] = least + i
	}
	return l
}

// P17.2: gamma is 0 to 2^20, with lefts and without.
func TestBestOfGamma(t *testing.T) {
	for _, l := range [][]api.Sum{nil, ones(4), ones(4, 0, -4), ones(0), {sum(0, 0)}} {
		for _, gamma := range wrongGammas() {
			isNoBest(t, 1, gamma, pair(), l)
		}
		for _, gamma := range rightGammas() {
			if _, err := Best(1, gamma, pair(), l); err != api.OK {
				t.Error("gamma", gamma, "error", err)
			}
			checkBest(t, 1, gamma, pair(), l)
		}
	}
	isNoBest(t, 1, -1, pair(), ones(4))
	isBest(t, 1, 0, pair(), ones(4), 0)
	isBest(t, 1, end, pair(), ones(4))
	isBest(t, 1, end, pair(), ones(1<<10, 1<<10+1), 1)
	isNoBest(t, 1, end+1, pair(), ones(4))
}

// P17.2: lambda is 1 to 2^20, with lefts and without.
func TestBestOfLambda(t *testing.T) {
	for _, l := range [][]api.Sum{nil, ones(4), ones(4, 0, -4), ones(0), {sum(0, 0)}} {
		for _, lambda := range wrongLambdas() {
			isNoBest(t, lambda, 0, pair(), l)
		}
		for _, lambda := range rightLambdas() {
			if _, err := Best(lambda, 0, pair(), l); err != api.OK {
				t.Error("lambda", lambda, "error", err)
			}
			checkBest(t, lambda, 0, pair(), l)
		}
	}
}

// P17.2: all rows' sums that may not be, with no lefts and with some; and all that may.
func TestBestOfAll(t *testing.T) {
	for _, all := range wrongSums() {
		isNoBest(t, 1, 0, all, nil)
		isNoBest(t, 1, 0, all, []api.Sum{})
		isNoBest(t, 1, 0, all, []api.Sum{{}})
		isNoBest(t, 1, 0, all, []api.Sum{all})
		isNoBest(t, 1, 0, all, ones(4, 0, -4))
		isNoBest(t, end, end, all, []api.Sum{{G: endG, H: endH}, {G: -endG, H: endH}})
	}
	for _, all := range rightSums() {
		isBest(t, 1, 0, all, nil)
		isBest(t, end, end, all, []api.Sum{})
	}
}

// P17.2: one left among many may not be, or its right rows' sums may not, wherever it stands, whatever its H are.
func TestBestOfWrongLefts(t *testing.T) {
	all := sum(7, 6)
	wrong := append(wrongSums(), sum(3, 7), sum(3, endH), sum(-endG, 3), sum(-endG, 0), sum(-endG, 6), sum(-endG+6, 3), sum(7, 7), sum(0, 7))
	for _, w := range wrong {
		isNoBest(t, 1, 0, all, []api.Sum{w})
		isNoBest(t, 1, end, all, []api.Sum{w, w})
		for place := range 9 {
			l := ones(5, 0, 1, 40, 40, -40, 7, 7, 3)
			isBest(t, 1, 0, all, l, 5)
			l[place] = w
			isNoBest(t, 1, 0, all, l)
			isNoBest(t, 1, end, all, l)
			isNoBest(t, 1, 0, all, slices.Insert(ones(5, 0, 1, 40, 40, -40, 7, 7, 3), place, w))
			checkBest(t, 1, 0, all, l)
		}
	}
	for _, right := range []api.Sum{sum(-endG+7, 0), sum(-endG+7, 3), sum(endG, 6), sum(endG, 3), sum(0, 6), sum(0, 0)} {
		if _, err := Best(1, 0, all, append(ones(5, 0, 1), right)); err != api.OK {
			t.Errorf("%+v: error %d", right, err)
		}
	}
}

// P17.2: one wrong left among as many as may be.
func TestBestOfWrongAmongMany(t *testing.T) {
	l := ones(rising(-8000, api.MaxList)...)
	isBest(t, 1, 0, pair(), l, api.MaxList-1)
	for _, place := range []int{0, 1, 5000, 8000, api.MaxList - 2, api.MaxList - 1} {
		for _, w := range []api.Sum{{G: 1, H: 3}, {G: 1, H: -1}, {G: endG + 1, H: 1}} {
			kept := l[place]
			l[place] = w
			isNoBest(t, 1, 0, pair(), l)
			l[place] = kept
		}
	}
}

// P17.2: at most 16384 lefts.
func TestBestOfCounts(t *testing.T) {
	same := slices.Repeat(ones(4), api.MaxList+1)
	isBest(t, 1, 0, pair(), same[:api.MaxList-1], rising(0, api.MaxList-1)...)
	isBest(t, 1, 0, pair(), same[:api.MaxList], rising(0, api.MaxList)...)
	isNoBest(t, 1, 0, pair(), same)
	isBest(t, 1, 16, pair(), same[:api.MaxList])
	isNoBest(t, 1, 16, pair(), same)
	isNoBest(t, 1, 16, pair(), make([]api.Sum, api.MaxList+1))
	isNoBest(t, 1, 16, pair(), make([]api.Sum, 5*api.MaxList))
	isBest(t, 1, 16, pair(), make([]api.Sum, api.MaxList))
}

// P17.2: of no lefts there is none.
func TestBestOfNone(t *testing.T) {
	isBest(t, 1, 0, sum(0, 0), nil)
	isBest(t, 1, 0, pair(), nil)
	isBest(t, 1, 0, pair(), []api.Sum{})
	isBest(t, end, end, sum(-endG, endH), nil)
}

// P17.2: left and right H are 1 at least, how great the Gain may be: of G 9 and H 0 it is above that of G 9 and H 1.
func TestBestOfEmptySides(t *testing.T) {
	all := sum(4, 3)
	for _, empty := range []api.Sum{sum(9, 0), sum(9, 3), sum(0, 0), sum(4, 3), sum(endG, 0), sum(endG, 3), sum(-endG+4, 0), sum(-endG+4, 3)} {
		isBest(t, 1, 0, all, []api.Sum{empty})
		isBest(t, 1, 0, all, []api.Sum{empty, sum(9, 1), sum(-5, 2)}, 1, 2)
		isBest(t, 1, 0, all, []api.Sum{sum(9, 1), empty, sum(-5, 2), empty}, 0, 2)
		isBest(t, 1, 0, all, []api.Sum{sum(1, 2), sum(9, 1), empty}, 1)
	}
	isBest(t, 1, 0, all, []api.Sum{sum(9, 1)}, 0)
	isBest(t, 1, 0, all, []api.Sum{sum(9, 2)}, 0)
	isBest(t, 1, 0, sum(0, 1), []api.Sum{sum(9, 0), sum(9, 1)})
	isBest(t, 1, 0, sum(0, 0), []api.Sum{sum(9, 0)})
	isBest(t, 1, 0, sum(0, endH), []api.Sum{sum(9, 0), sum(9, endH)})
	isBest(t, 1, 0, sum(0, endH), []api.Sum{sum(endG, 1), sum(endG, endH-1), sum(endG, 2)}, 0, 1)
}

// P17.2: a Gain that is gamma is none; one that is above it is, by how little it be.
func TestBestAtGamma(t *testing.T) {
	for _, n := range []int{1, 2, 3, 4, 100, 1<<10 - 1} {
		isBest(t, 1, n*n-1, pair(), ones(n), 0)
		isBest(t, 1, n*n, pair(), ones(n))
		isBest(t, 1, n*n+1, pair(), ones(n))
		isBest(t, 1, n*n, pair(), ones(n, -n, n, 0, n))
		isBest(t, 1, n*n, pair(), ones(n, -n, n+1, n), 2)
		isBest(t, 1, n*n, pair(), ones(n+1, n, -n-1, -n), 0, 2)
		isBest(t, 1, n*n-1, pair(), ones(n-1, -n, n, 0), 1, 2)
	}
	isBest(t, 1, 0, pair(), ones(0))
	isBest(t, 1, 0, sum(4, 2), []api.Sum{sum(2, 1)})
	isBest(t, 1, end, pair(), ones(1<<10))
	isBest(t, 1, end-1, pair(), ones(1<<10), 0)
	// Of these Gains one is 1 by 8913366 above 494144, the other 1 by 3985314 below 15169.
	isBest(t, 100, 494143, sum(0, 6305), []api.Sum{sum(26021, 1862)}, 0)
	isBest(t, 100, 494144, sum(0, 6305), []api.Sum{sum(26021, 1862)}, 0)
	isBest(t, 100, 494145, sum(0, 6305), []api.Sum{sum(26021, 1862)})
	isBest(t, 50, 15168, sum(0, 4285), []api.Sum{sum(3713, 3049)}, 0)
	isBest(t, 50, 15169, sum(0, 4285), []api.Sum{sum(3713, 3049)})
}

// P17.2: gamma is about each of many Gains.
func TestBestAboutGamma(t *testing.T) {
	r := seeded(2)
	for range 3000 {
		lambda, all := 1+r.IntN(30), sum(within(r, 500), 2+r.IntN(40))
		left := sum(within(r, 500), 1+r.IntN(all.H-1))
		g := gainOf(lambda, left, all)
		down := int(new(big.Int).Div(g.Num(), g.Denom()).Int64())
		if down < 1 || down >= end {
			continue
		}
		isBest(t, lambda, down-1, all, []api.Sum{left}, 0)
		isBest(t, lambda, down+1, all, []api.Sum{left})
		if g.IsInt() {
			isBest(t, lambda, down, all, []api.Sum{left})
		} else {
			isBest(t, lambda, down, all, []api.Sum{left}, 0)
		}
	}
}

// P17.2: Gains that are the same, side by side and apart, of the same sums and of others.
func TestBestOfSame(t *testing.T) {
	isBest(t, 1, 0, pair(), ones(4, 4), 0, 1)
	isBest(t, 1, 0, pair(), ones(4, -4, 4, 4, -4), 0, 1, 2, 3, 4)
	isBest(t, 1, 0, pair(), ones(4, 1, 2, -4, 0, 3, 3, 4), 0, 3, 7)
	isBest(t, 1, 0, pair(), ones(1, 4, 4, 2, 2, 4), 1, 2, 5)
	isBest(t, 1, 0, pair(), ones(1, 1, 1, 4, 4, 0, 0, 4, 3), 3, 4, 7)
	// All four have a Gain of 10.
	isBest(t, 1, 9, sum(0, 8), []api.Sum{sum(4, 1), sum(5, 4), sum(-5, 4), sum(4, 7)}, 0, 1, 2, 3)
	isBest(t, 1, 10, sum(0, 8), []api.Sum{sum(4, 1), sum(5, 4), sum(-5, 4), sum(4, 7)})
	isBest(t, 1, 0, sum(0, 8), []api.Sum{sum(4, 1), sum(4, 4), sum(5, 4), sum(4, 2), sum(4, 7), sum(4, 6)}, 0, 2, 4)
	isBest(t, 1, 0, sum(0, 8), []api.Sum{sum(5, 4), sum(5, 4), sum(5, 1), sum(4, 1), sum(-5, 7)}, 2, 4)
	every := []int{}
	l := make([]api.Sum, 3000)
	for i := range l {
		l[i] = sum(i%97, 1)
		if i%97 == 96 {
			every = append(every, i)
		}
	}
	isBest(t, 1, 0, pair(), l, every...)
	l[0], l[1500], l[2999] = sum(-97, 1), sum(97, 1), sum(97, 1)
	isBest(t, 1, 0, pair(), l, 0, 1500, 2999)
}

// P17.2: a greater Gain behind lesser ones, ahead of them, and among them.
func TestBestOfGreater(t *testing.T) {
	isBest(t, 1, 0, pair(), ones(1, 2, 3, 4, 5), 4)
	isBest(t, 1, 0, pair(), ones(5, 4, 3, 2, 1), 0)
	isBest(t, 1, 0, pair(), ones(1, 4, 5, 3, 2), 2)
	isBest(t, 1, 0, pair(), ones(4, 4, 4, 5, 4, 4), 3)
	isBest(t, 1, 0, pair(), ones(4, 4, 4, 4, 4, -5), 5)
	isBest(t, 1, 0, pair(), ones(-5, 4, 4, 4, 4, 4), 0)
	isBest(t, 1, 0, pair(), ones(4, 5, 4, 5, 6, 5, 6), 4, 6)
	for count := 1; count < 40; count++ {
		l := ones(rising(1, count)...)
		isBest(t, 1, 0, pair(), l, count-1)
		slices.Reverse(l)
		isBest(t, 1, 0, pair(), l, 0)
		for place := range count {
			l = slices.Repeat(ones(7), count)
			l[place] = sum(8, 1)
			isBest(t, 1, 0, pair(), l, place)
		}
	}
}

// P17.2: Gains of up to 2^80 that differ by less than 1: the squares of x and y differ by one, of twice the one and the other, one above and one below in turn.
func TestBestOfNear(t *testing.T) {
	all := sum(0, 12)
	above := false
	for x, y := 1, 1; y <= endG; x, y = x+y, y+2*x {
		l := []api.Sum{sum(x, 1), sum(y, 5)}
		place := 0
		if above {
			place = 1
		}
		isBest(t, 1, 0, all, l, place)
		isBest(t, 1, 0, all, []api.Sum{l[1], l[0]}, 1-place)
		isBest(t, 1, 0, all, []api.Sum{l[0], l[1], sum(-x, 1), sum(y, 7)}, place, place+2)
		above = !above
	}
}

// P17.2: the greatest and the least numbers of all that may be, together.
func TestBestOfGreatest(t *testing.T) {
	isBest(t, 1, end, pair(), ones(endG, -endG, endG-1), 0, 1)
	isBest(t, 1, end, sum(endG, 2), ones(endG, 0, 1, endG-1), 0, 1)
	isBest(t, end, end, sum(endG, endH), []api.Sum{sum(endG, 1), sum(0, 1), sum(0, endH-1), sum(endG, endH-1)}, 0, 2)
	isBest(t, end, end, sum(-endG, endH), []api.Sum{sum(-endG, 1), sum(0, 1), sum(0, endH-1), sum(-endG, endH-1)}, 0, 2)
	isBest(t, end, end, sum(0, endH), []api.Sum{sum(endG, 1), sum(-endG, 1), sum(-endG, endH-1), sum(endG, endH/2)}, 0, 1, 2)
	for _, lambda := range rightLambdas() {
		for _, gamma := range rightGammas() {
			for _, all := range rightSums() {
				var l []api.Sum
				for _, left := range rightSums() {
					checkBest(t, lambda, gamma, all, []api.Sum{left})
					if maySplit(left, all) {
						l = append(l, left)
					}
				}
				checkBest(t, lambda, gamma, all, l)
			}
		}
	}
}

// P17.2: every two of a few lefts, of every few sums.
func TestBestOfSmall(t *testing.T) {
	var few []api.Sum
	for h := range 4 {
		for g := -2; g <= 2; g++ {
			few = append(few, sum(g, h))
		}
	}
	for lambda := 1; lambda <= 2; lambda++ {
		for gamma := range 3 {
			for _, all := range few {
				for _, a := range few {
					for _, b := range few {
						checkBest(t, lambda, gamma, all, []api.Sum{a, b})
					}
				}
			}
		}
	}
}

// P17.2: any lists that may be, of many Gains that are the same and of few.
func TestBestOfAny(t *testing.T) {
	r := seeded(3)
	some := 0
	for i := range 3000 {
		all := someAll(r)
		if i%2 == 0 {
			all = sum(within(r, 30), r.IntN(12))
		}
		l := someLefts(r, all, r.IntN(40), i%3 > 0)
		checkBest(t, someLambda(r), upTo(r, end), all, l)
		checkBest(t, 1+r.IntN(5), r.IntN(5), all, l)
		if got, _ := Best(1, 0, all, l); len(got) > 1 {
			some++
		}
	}
	if some < 500 {
		t.Error("lists of several best ones:", some)
	}
}
