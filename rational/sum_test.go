package rational

import (
	"math/big"
	"math/rand/v2"
	"testing"

	"windbreak/api"
	"windbreak/modint"
)

// P8.2: sums, differences and products by another reckoning, too long ones among them.
func TestSums(t *testing.T) {
	all := samples()
	for _, a := range all {
		for _, b := range all {
			for _, c := range calls() {
				c.check(t, a, b)
			}
		}
	}
}

// P8.2: all small fractions.
func TestSmallSums(t *testing.T) {
	for a := int64(-7); a <= 7; a++ {
		for b := int64(1); b <= 7; b++ {
			for c := int64(-7); c <= 7; c++ {
				for d := int64(1); d <= 7; d++ {
					for _, call := range calls() {
						call.check(t, small(a, b), small(c, d))
					}
				}
			}
		}
	}
}

// longCase is a call of two fractions, and how many limbs its answer's parts have, before it is looked at whether they are too many.
type longCase struct {
	call     int
	a, b     api.Frac
	num, den int
}

func longCases() []longCase {
	most, half, two := power(1024, -1), power(512, 0), big.NewInt(2)
	sums, gaps, products := 0, 1, 2
	return []longCase{
		{sums, by(power(1024, -2), one()), small(1, 1), 16, 1},
		{sums, by(most, one()), small(1, 1), 17, 1},
		{sums, by(power(1024, -3), two), small(1, 1), 16, 1},
		{sums, by(most, two), small(1, 1), 17, 1},
		{sums, by(opposite(power(1024, -2)), one()), small(-1, 1), 16, 1},
		{sums, by(opposite(most), one()), small(-1, 1), 17, 1},
		{sums, by(one(), half), by(one(), power(512, -1)), 9, 16},
		{sums, by(one(), half), by(one(), power(512, 1)), 9, 17},
		{sums, by(one(), power(1023, 0)), by(one(), power(1023, 0)), 1, 16},
		{sums, by(most, power(1023, 0)), by(one(), power(1023, 0)), 1, 1},
		{gaps, by(opposite(power(1024, -2)), one()), small(1, 1), 16, 1},
		{gaps, by(opposite(most), one()), small(1, 1), 17, 1},
		{gaps, by(power(1024, -2), one()), small(-1, 1), 16, 1},
		{gaps, by(most, one()), small(-1, 1), 17, 1},
		{gaps, by(one(), power(512, -1)), by(one(), half), 1, 16},
		{gaps, by(one(), half), by(one(), power(512, 1)), 1, 17},
		{gaps, by(one(), most), by(one(), most), 0, 1},
		{gaps, by(most, power(1023, 0)), by(most, power(1023, 0)), 0, 1},
		{products, by(half, one()), by(power(511, 0), one()), 16, 1},
		{products, by(half, one()), by(half, one()), 17, 1},
		{products, by(opposite(half), one()), by(power(512, -1), one()), 16, 1},
		{products, by(opposite(half), one()), by(power(512, 1), one()), 17, 1},
		{products, by(one(), half), by(one(), power(511, 0)), 1, 16},
		{products, by(one(), half), by(one(), half), 1, 17},
		{products, by(half, big.NewInt(3)), by(half, big.NewInt(3)), 17, 1},
		{products, by(most, one()), by(one(), most), 1, 1},
		{products, by(most, power(1023, 0)), by(power(1023, 0), most), 1, 1},
		{products, by(most, one()), small(0, 1), 0, 1},
	}
}

// P8.2: an answer of 16 limbs is told, one of 17 is ErrNatLong, above 0 and below, on either side; what is left once the common divisor is out counts.
func TestLongSums(t *testing.T) {
	for i, c := range longCases() {
		call := calls()[c.call]
		want := frac(call.want(new(big.Rat), ratio(c.a), ratio(c.b)))
		if len(want.Num.Mag) != c.num || len(want.Den) != c.den {
			t.Error("the case itself:", i, len(want.Num.Mag), len(want.Den))
		}
		call.check(t, c.a, c.b)
		got, err := call.ask(c.a, c.b)
		if c.num == 17 || c.den == 17 {
			refused(t, call.name, got, err, api.ErrNatLong)
		} else if err != api.OK || len(got.Num.Mag) != c.num || len(got.Den) != c.den {
			t.Error(call.name, i, got, err)
		}
	}
}

// P8.2: fractions of half as many limbs, and of a few more, of which some answers are just short enough.
func TestSumsOfDrawn(t *testing.T) {
	r := rand.New(rand.NewPCG(4, 8))
	for range 500 {
		a, b := drawnFrac(r, 9), drawnFrac(r, 9)
		for _, c := range calls() {
			c.check(t, a, b)
		}
	}
}

// P8.2: what may not be is ErrArg ahead of all else, on either side; so it is where the answer would be too long.
func TestWrongFractions(t *testing.T) {
	for _, w := range wrong() {
		for _, a := range append(few(), wrong()...) {
			for _, c := range calls() {
				got, err := c.ask(a, w)
				refused(t, c.name+" behind", got, err, api.ErrArg)
				got, err = c.ask(w, a)
				refused(t, c.name+" ahead", got, err, api.ErrArg)
			}
		}
		checkFloor(t, w)
	}
}

// P8.2: Floor of all samples, and of small fractions, whole and not, above 0 and below.
func TestFloor(t *testing.T) {
	for _, a := range samples() {
		checkFloor(t, a)
	}
	for num := int64(-60); num <= 60; num++ {
		for den := int64(1); den <= 13; den++ {
			checkFloor(t, small(num, den))
		}
	}
	for _, c := range [][3]int64{
		{0, 1, 0}, {1, 1, 1}, {-1, 1, -1}, {7, 1, 7}, {-7, 1, -7}, {7, 2, 3}, {-7, 2, -4}, {1, 2, 0}, {-1, 2, -1}, {1, 1000, 0}, {-1, 1000, -1}, {999, 1000, 0}, {-999, 1000, -1}, {-1001, 1000, -2},
	} {
		if got, err := Floor(small(c[0], c[1])); err != api.OK || !sameInt(got, modint.Of(c[2])) {
			t.Error(c, got, err)
		}
	}
}

// P8.2: Floor of the longest fractions.
func TestLongFloor(t *testing.T) {
	most := power(1024, -1)
	for _, c := range []struct {
		num, den, want *big.Int
	}{
		{most, one(), most}, {opposite(most), one(), opposite(most)}, {most, big.NewInt(2), power(1023, -1)}, {opposite(most), big.NewInt(2), opposite(power(1023, 0))},
		{one(), most, new(big.Int)}, {opposite(one()), most, big.NewInt(-1)}, {power(1024, -2), most, new(big.Int)}, {opposite(power(1024, -2)), most, big.NewInt(-1)}, {most, power(1024, -2), one()}, {opposite(most), power(1024, -2), big.NewInt(-2)},
	} {
		if got, err := Floor(by(c.num, c.den)); err != api.OK || !sameInt(got, parts(c.want)) {
			t.Error(c.num, c.den, got, err)
		}
	}
}
