package gain

import (
	"math"
	"math/big"
	"testing"

	"windbreak/api"
)

// isScore asks of a score that it is just num by den; isGain of a gain.
func isScore(t *testing.T, lambda int, s api.Sum, num, den int64) {
	t.Helper()
	got, err := Score(lambda, s)
	isFrac(t, "Score", got, err, big.NewRat(num, den))
}

func isGain(t *testing.T, lambda int, left, all api.Sum, num, den int64) {
	t.Helper()
	got, err := Gain(lambda, left, all)
	isFrac(t, "Gain", got, err, big.NewRat(num, den))
}

// isNoScore asks of a score that it is ErrArg, and nothing beside it; isNoGain of a gain.
func isNoScore(t *testing.T, lambda int, s api.Sum) {
	t.Helper()
	got, err := Score(lambda, s)
	isNone(t, "Score", got, err)
	checkScore(t, lambda, s)
}

func isNoGain(t *testing.T, lambda int, left, all api.Sum) {
	t.Helper()
	got, err := Gain(lambda, left, all)
	isNone(t, "Gain", got, err)
	checkGain(t, lambda, left, all)
}

// The chapter's examples.
func TestExamples(t *testing.T) {
	isScore(t, 1, sum(4, 1), 8, 1)
	isGain(t, 1, sum(4, 1), sum(0, 2), 16, 1)
	isBest(t, 1, 0, sum(0, 2), []api.Sum{{G: 0, H: 1}, {G: 4, H: 1}, {G: -4, H: 1}}, 1, 2)
}

// P17.1: scores that are whole, and that are not, in lowest terms, none below 0.
func TestScore(t *testing.T) {
	for _, e := range []struct {
		lambda, g, h int
		num, den     int64
	}{
		{1, 0, 0, 0, 1}, {1, 0, 7, 0, 1}, {end, 0, endH, 0, 1},
		{1, 1, 0, 1, 1}, {1, -1, 0, 1, 1}, {1, 3, 0, 9, 1}, {1, -3, 0, 9, 1},
		{1, 1, 1, 1, 2}, {1, -1, 1, 1, 2}, {1, 4, 1, 8, 1}, {1, -4, 1, 8, 1},
		{2, 4, 1, 16, 3}, {2, 3, 1, 3, 1}, {2, -3, 1, 3, 1}, {3, 4, 1, 4, 1}, {2, 6, 4, 6, 1}, {1, 6, 7, 9, 2}, {1, 7, 7, 49, 8},
		{5, 10, 15, 5, 1}, {5, -10, 3, 25, 2}, {end, 1, endH, 1, 1 << 21}, {end, 1 << 11, endH, 2, 1}, {end, 3 << 10, endH, 9, 2},
	} {
		isScore(t, e.lambda, sum(e.g, e.h), e.num, e.den)
	}
}

// P17.1: lambda is 1 to 2^20.
func TestLambda(t *testing.T) {
	for _, s := range rightSums() {
		for _, lambda := range wrongLambdas() {
			isNoScore(t, lambda, s)
			isNoGain(t, lambda, s, s)
			isNoGain(t, lambda, sum(0, 0), s)
		}
		for _, lambda := range rightLambdas() {
			if _, err := Score(lambda, s); err != api.OK {
				t.Error("score of lambda", lambda, "error", err)
			}
			if _, err := Gain(lambda, s, s); err != api.OK {
				t.Error("gain of lambda", lambda, "error", err)
			}
		}
	}
	isNoScore(t, 0, sum(4, 1))
	isNoScore(t, end+1, sum(4, 1))
	isNoGain(t, 0, sum(4, 1), sum(0, 2))
	isNoGain(t, end+1, sum(4, 1), sum(0, 2))
	isScore(t, 1, sum(4, 1), 8, 1)
	isScore(t, end, sum(1<<10, 0), 1, 1)
	isGain(t, 1, sum(4, 1), sum(0, 2), 16, 1)
	isGain(t, end, sum(1<<10, 0), sum(0, 0), 2, 1)
}

// gBounds and hBounds are numbers about the ends, and whether they may be a G, an H.
func gBounds() map[int]bool {
	return map[int]bool{math.MinInt: false, -1 << 41: false, -1<<40 - 2: false, -1<<40 - 1: false, -1 << 40: true, -1<<40 + 1: true, -1 << 20: true, -1: true, 0: true, 1: true, 1 << 20: true, 1<<40 - 1: true, 1 << 40: true, 1<<40 + 1: false, 1<<40 + 2: false, 1 << 41: false, math.MaxInt: false}
}

func hBounds() map[int]bool {
	return map[int]bool{math.MinInt: false, -1 << 40: false, -1 << 20: false, -2: false, -1: false, 0: true, 1: true, 1<<20 - 1: true, 1 << 20: true, 1<<20 + 1: false, 1<<20 + 2: false, 1 << 40: false, math.MaxInt: false}
}

// P17.1: G is from -2^40 to 2^40, H from 0 to 2^20.
func TestBounds(t *testing.T) {
	for g, gMay := range gBounds() {
		for h, hMay := range hBounds() {
			s := sum(g, h)
			for _, lambda := range rightLambdas() {
				if !gMay || !hMay {
					isNoScore(t, lambda, s)
					isNoGain(t, lambda, s, s)
					isNoGain(t, lambda, sum(0, 0), s)
					isNoGain(t, lambda, s, sum(0, 0))
					isNoGain(t, lambda, s, sum(1, endH))
				} else if _, err := Gain(lambda, s, s); err != api.OK {
					t.Errorf("lambda %d, %+v: error %d", lambda, s, err)
				}
				checkScore(t, lambda, s)
				checkGain(t, lambda, s, s)
				checkGain(t, lambda, sum(0, 0), s)
			}
		}
	}
}

// P17.1: an H that makes 0 or less of H and lambda is none that may be.
func TestNoDivisor(t *testing.T) {
	for _, lambda := range []int{1, 2, end} {
		isNoScore(t, lambda, sum(5, -lambda))
		isNoScore(t, lambda, sum(5, -lambda-1))
		isNoGain(t, lambda, sum(5, -lambda), sum(5, 5))
		isNoGain(t, lambda, sum(5, 5+lambda), sum(5, 5))
		isNoGain(t, lambda, sum(5, -lambda), sum(5, -lambda))
	}
}

// P17.1: gains that are whole, and that are not, above 0 and below.
func TestGain(t *testing.T) {
	for _, e := range []struct {
		lambda    int
		left, all api.Sum
		num, den  int64
	}{
		{1, sum(0, 0), sum(0, 0), 0, 1}, {1, sum(0, 1), sum(0, 2), 0, 1}, {end, sum(0, 0), sum(0, endH), 0, 1},
		{1, sum(-4, 1), sum(0, 2), 16, 1}, {1, sum(4, 1), sum(4, 2), 8, 3}, {1, sum(4, 1), sum(8, 2), -16, 3}, {1, sum(-4, 1), sum(-8, 2), -16, 3},
		{1, sum(1, 1), sum(3, 2), -1, 2}, {1, sum(1, 1), sum(2, 2), -1, 3}, {1, sum(1, 0), sum(0, 0), 2, 1}, {1, sum(1, 0), sum(1, 0), 0, 1},
		{2, sum(1, 1), sum(3, 3), -7, 15}, {2, sum(5, 1), sum(3, 3), 113, 15}, {2, sum(5, 0), sum(3, 2), 45, 4},
		{1, sum(7, 0), sum(7, 3), 147, 4}, {1, sum(7, 3), sum(7, 3), 0, 1}, {1, sum(7, 0), sum(5, 3), 175, 4}, {1, sum(-2, 3), sum(5, 3), 175, 4},
	} {
		isGain(t, e.lambda, e.left, e.all, e.num, e.den)
		checkGain(t, e.lambda, e.left, e.all)
	}
}

// P17.1: right rows' sums may not be, though the left ones and all may: the last that may, and the first that may not.
func TestGainOfWrongRight(t *testing.T) {
	for _, lambda := range rightLambdas() {
		for _, e := range []struct {
			left, all api.Sum
			may       bool
		}{
			{sum(-endG, 1), sum(0, 2), true}, {sum(-endG, 1), sum(1, 2), false}, {sum(-endG, 1), sum(endG, 2), false}, {sum(-endG+1, 1), sum(1, 2), true}, {sum(-1, 1), sum(endG-1, 2), true}, {sum(-1, 1), sum(endG, 2), false},
			{sum(endG, 1), sum(0, 2), true}, {sum(endG, 1), sum(-1, 2), false}, {sum(endG, 1), sum(-endG, 2), false}, {sum(endG-1, 1), sum(-1, 2), true}, {sum(1, 1), sum(-endG+1, 2), true}, {sum(1, 1), sum(-endG, 2), false},
			{sum(3, 2), sum(5, 2), true}, {sum(3, 3), sum(5, 2), false}, {sum(3, 1), sum(5, 0), false}, {sum(3, endH), sum(5, 0), false}, {sum(3, endH), sum(5, endH), true}, {sum(3, endH), sum(5, endH-1), false}, {sum(3, 0), sum(5, endH), true},
			{sum(-endG, 3), sum(endG, 2), false}, {sum(endG, endH), sum(-endG, 0), false},
		} {
			if e.may {
				if _, err := Gain(lambda, e.left, e.all); err != api.OK {
					t.Errorf("lambda %d, left %+v, all %+v: error %d", lambda, e.left, e.all, err)
				}
			} else {
				isNoGain(t, lambda, e.left, e.all)
			}
			checkGain(t, lambda, e.left, e.all)
		}
	}
}

// P17.1: a left that may not be, an all that may not be, each with another one that may, and both.
func TestGainOfWrongSums(t *testing.T) {
	for _, wrong := range wrongSums() {
		isNoScore(t, 1, wrong)
		isNoScore(t, end, wrong)
		isNoGain(t, 1, wrong, wrong)
		for _, right := range rightSums() {
			isNoGain(t, 1, wrong, right)
			isNoGain(t, 1, right, wrong)
		}
		for _, other := range wrongSums() {
			isNoGain(t, 3, wrong, other)
		}
	}
}

// P17.1: sums that may not be, whose differences are such as may, be it that they wrap round.
func TestGainOfRightDifferences(t *testing.T) {
	isNoGain(t, 1, sum(math.MinInt, 1), sum(math.MinInt, 2))
	isNoGain(t, 1, sum(math.MaxInt, 1), sum(math.MaxInt, 2))
	isNoGain(t, 1, sum(math.MaxInt, 1), sum(math.MinInt, 2))
	isNoGain(t, 1, sum(math.MinInt, 1), sum(math.MaxInt, 2))
	isNoGain(t, 1, sum(1, math.MaxInt), sum(1, math.MaxInt))
	isNoGain(t, 1, sum(1, math.MinInt), sum(1, math.MinInt))
	isNoGain(t, 1, sum(1, math.MaxInt), sum(1, math.MinInt))
	isNoGain(t, 1, sum(endG+1, 1), sum(endG+1, 2))
	isNoGain(t, 1, sum(1, endH+1), sum(1, endH+2))
	isNoGain(t, 1, sum(endG+1, 1), sum(endG, 2))
	isNoGain(t, 1, sum(-endG-1, 1), sum(-endG, 2))
	isNoGain(t, 1, sum(endG, 1), sum(endG+1, 2))
	isNoGain(t, 1, sum(1, -1), sum(1, 2))
	isNoGain(t, 1, sum(1, endH), sum(1, endH+1))
	isNoGain(t, 1, sum(1, 1), sum(1, endH+1))
}

// P17.1: the greatest and the least numbers of all that may be, together.
func TestGreatest(t *testing.T) {
	top := new(big.Rat).SetInt(new(big.Int).Lsh(big.NewInt(1), 80))
	got, err := Score(1, sum(endG, 0))
	isFrac(t, "Score", got, err, top)
	got, err = Score(1, sum(-endG, 0))
	isFrac(t, "Score", got, err, top)
	isScore(t, end, sum(endG, endH), 1<<59, 1)
	isScore(t, end, sum(-endG, endH), 1<<59, 1)
	twice := new(big.Rat).Add(top, top)
	got, err = Gain(1, sum(endG, 0), sum(0, 0))
	isFrac(t, "Gain", got, err, twice)
	got, err = Gain(1, sum(-endG, 0), sum(0, 0))
	isFrac(t, "Gain", got, err, twice)
	isGain(t, end, sum(endG, 0), sum(endG, endH), 1<<59, 1)
	isGain(t, end, sum(endG, endH), sum(endG, endH), 0, 1)
	isGain(t, end, sum(endG, endH/2), sum(0, endH), 1<<62, 3)
	for _, lambda := range rightLambdas() {
		for _, all := range rightSums() {
			checkScore(t, lambda, all)
			for _, left := range rightSums() {
				checkGain(t, lambda, left, all)
			}
		}
	}
}

// P17.1: each few sums, of each few lambdas.
func TestSmall(t *testing.T) {
	for lambda := 1; lambda <= 3; lambda++ {
		for h := -1; h <= 3; h++ {
			for g := -6; g <= 6; g++ {
				all := sum(g, h)
				checkScore(t, lambda, all)
				for leftH := -1; leftH <= 4; leftH++ {
					for leftG := -6; leftG <= 6; leftG++ {
						checkGain(t, lambda, sum(leftG, leftH), all)
					}
				}
			}
		}
	}
}

// P17.1: any sums that may be, of any lambda.
func TestAnySums(t *testing.T) {
	r := seeded(1)
	for range 10000 {
		lambda, all := someLambda(r), someAll(r)
		checkScore(t, lambda, all)
		checkGain(t, lambda, someLeft(r, all), all)
		checkGain(t, lambda, someAll(r), all)
	}
}
