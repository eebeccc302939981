package loss

import (
	"math"
	"testing"

	"windbreak/api"
)

// P16.2: ErrArg of a configuration that may not be, of whatever sums.
func TestWeightOfWrongConfigs(t *testing.T) {
	for _, c := range wrongConfigs() {
		isNoWeight(t, c, 7, 3)
		isNoWeight(t, c, 0, 0)
		isNoWeight(t, c, 1<<40+1, -1)
	}
}

// P16.2: G is from -2^40 to 2^40, H from 0 to 2^20.
func TestWeightOfBounds(t *testing.T) {
	gs := map[int]bool{math.MinInt: false, -1<<40 - 2: false, -1<<40 - 1: false, -1 << 40: true, -1<<40 + 1: true, 0: true, 1<<40 - 1: true, 1 << 40: true, 1<<40 + 1: false, 1 << 41: false, math.MaxInt: false}
	hs := map[int]bool{math.MinInt: false, -1 << 20: false, -2: false, -1: false, 0: true, 1: true, 1<<20 - 1: true, 1 << 20: true, 1<<20 + 1: false, 1 << 40: false, math.MaxInt: false}
	for _, c := range rightConfigs() {
		for g, gMay := range gs {
			for h, hMay := range hs {
				if !gMay || !hMay {
					isNoWeight(t, c, g, h)
				} else if _, err := Weight(c, api.Sum{G: g, H: h}); err != api.OK {
					t.Error("G", g, "H", h, "error", err)
				}
				checkWeight(t, c, api.Sum{G: g, H: h})
			}
		}
	}
	for _, n := range far() {
		if n < -1<<40 || n > 1<<40 {
			isNoWeight(t, plain(), n, 1)
			isNoWeight(t, plain(), n, n)
		}
		if n < 0 || n > 1<<20 {
			isNoWeight(t, plain(), 1, n)
			isNoWeight(t, plain(), 0, n)
		}
	}
}

// P16.2: a sum that would be 0 with Lambda is no H that may be.
func TestWeightOfNoDivisor(t *testing.T) {
	for _, lambda := range []int{1, 2, 1 << 20} {
		isNoWeight(t, leaf(lambda, 1, 1), 5, -lambda)
		isNoWeight(t, leaf(lambda, 1, 1), 5, -lambda-1)
	}
}

// P16.2: quotients that are whole, and that are not, above 0 and below; all of those that are not are rounded down.
func TestWeightOfQuotients(t *testing.T) {
	for _, e := range []struct{ lambda, num, den, g, h, want int }{
		{1, 1, 1, 0, 0, 0}, {1, 1, 1, 5, 0, -5}, {1, 1, 1, -5, 0, 5},
		{1, 1, 1, 6, 2, -2}, {1, 1, 1, -6, 2, 2},
		{1, 1, 1, 7, 2, -3}, {1, 1, 1, -7, 2, 2},
		{1, 1, 1, 5, 2, -2}, {1, 1, 1, -5, 2, 1},
		{1, 1, 1, 1, 2, -1}, {1, 1, 1, -1, 2, 0},
		{1, 1, 1, -20, 2, 6}, {1, 1, 1, 20, 2, -7},
		{2, 3, 4, 8, 1, -2}, {2, 3, 4, -8, 1, 2},
		{2, 3, 4, 9, 1, -3}, {2, 3, 4, -9, 1, 2},
		{2, 3, 4, 7, 1, -2}, {2, 3, 4, -7, 1, 1},
		{3, 2, 2, 10, 7, -1}, {3, 2, 2, -10, 7, 1},
		{1, 1, 2, 2, 0, -1}, {1, 1, 2, -2, 0, 1},
		{1, 1, 2, 1, 0, -1}, {1, 1, 2, -1, 0, 0},
	} {
		isWeight(t, leaf(e.lambda, e.num, e.den), e.g, e.h, e.want)
	}
}

// P16.2: of G 0 there is nothing to add.
func TestWeightOfZero(t *testing.T) {
	for _, c := range rightConfigs() {
		for _, h := range []int{0, 1, 256, 1<<20 - 1, 1 << 20} {
			isWeight(t, c, 0, h, 0)
		}
	}
}

// P16.2: the greatest and the least numbers of all that may be, together.
func TestWeightOfGreatest(t *testing.T) {
	const most, top = 1 << 20, 1 << 40
	isWeight(t, leaf(1, 1, 1), top, 0, -top)
	isWeight(t, leaf(1, 1, 1), -top, 0, top)
	isWeight(t, leaf(1, most, most), top, 0, -top)
	isWeight(t, leaf(1, most, most), -top, 0, top)
	isWeight(t, leaf(1, most, most), top-1, 0, -top+1)
	isWeight(t, leaf(1, most, most), -top+1, 0, top-1)
	isWeight(t, leaf(most, most, most), top, most, -1<<19)
	isWeight(t, leaf(most, most, most), -top, most, 1<<19)
	isWeight(t, leaf(most, 1, most), top, most, -1)
	isWeight(t, leaf(most, 1, most), -top, most, 0)
	isWeight(t, leaf(most, 2, most), -top, most, 1)
	isWeight(t, leaf(most, 2, most), top, most, -1)
	isWeight(t, leaf(most, 1, most), 1, most, -1)
	isWeight(t, leaf(most, 1, most), -1, most, 0)
	isWeight(t, leaf(1, 1, most), top, 0, -most)
	isWeight(t, leaf(1, 1, most), -top, 0, most)
	isWeight(t, leaf(1, most-1, most), 1, 0, -1)
	isWeight(t, leaf(1, most-1, most), -1, 0, 0)
	// -(2^40 - 2^20), and that with the sign changed: Num is one less than Den.
	isWeight(t, leaf(1, most-1, most), top, 0, -top+most)
	isWeight(t, leaf(1, most-1, most), -top, 0, top-most)
	edges := []int{1, 2, most - 1, most}
	for _, lambda := range edges {
		for _, den := range edges {
			for _, num := range edges {
				for _, h := range append(edges, 0) {
					for _, g := range []int{-top, -top + 1, -1, 0, 1, top - 1, top} {
						checkWeight(t, leaf(lambda, num, den), api.Sum{G: g, H: h})
					}
				}
			}
		}
	}
}

// P16.2: each few sums, of each few configurations.
func TestWeightOfSmall(t *testing.T) {
	for lambda := 1; lambda <= 3; lambda++ {
		for den := 1; den <= 4; den++ {
			for num := 1; num <= den; num++ {
				c := leaf(lambda, num, den)
				for h := range 4 {
					for g := -30; g <= 30; g++ {
						checkWeight(t, c, api.Sum{G: g, H: h})
					}
				}
			}
		}
	}
}

// P16.2: at and beside G of which the quotient is whole.
func TestWeightBesideWhole(t *testing.T) {
	r := seeded(3)
	for range 5000 {
		c := someConfig(r)
		c.Num = 1 + r.IntN(min(c.Den, 5))
		h := r.IntN(300)
		// -G times Num is a multiple of (H and Lambda) times Den, if G is.
		by := (h + c.Lambda) * c.Den
		if by > 1<<40 {
			continue
		}
		times := r.IntN(1<<40/by) + 1
		isWeight(t, c, times*by, h, -times*c.Num)
		isWeight(t, c, -times*by, h, times*c.Num)
		isWeight(t, c, -times*by+1, h, times*c.Num-1-(c.Num-1)/by)
		for _, g := range []int{times*by - 1, times*by + 1, -times*by - 1} {
			checkWeight(t, c, api.Sum{G: g, H: h})
		}
	}
}

// P16.2: any sums, of any configurations.
func TestWeightOfAny(t *testing.T) {
	r := seeded(4)
	for range 20000 {
		checkWeight(t, someConfig(r), api.Sum{G: within(r, 1<<40), H: r.IntN(1<<20 + 1)})
		checkWeight(t, someConfig(r), api.Sum{G: within(r, 1<<28), H: r.IntN(257)})
	}
}

// P16.2: a weight hangs on Lambda, Num and Den alone of a configuration that may be.
func TestWeightHangsOnLambda(t *testing.T) {
	r := seeded(5)
	for range 2000 {
		c, d := someConfig(r), someConfig(r)
		d.Lambda, d.Num, d.Den = c.Lambda, c.Num, c.Den
		s := api.Sum{G: within(r, 1<<40), H: r.IntN(300)}
		got, err := Weight(c, s)
		if again, other := Weight(d, s); got != again || err != api.OK || other != api.OK {
			t.Errorf("%+v and %+v: %d and %d", c, d, got, again)
		}
	}
}
