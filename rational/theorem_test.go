package rational

import (
	"math/big"
	"math/rand/v2"
	"testing"

	"windbreak/api"
	"windbreak/modint"
	"windbreak/nat"
)

// pairs asks something of many pairs of fractions: the samples, each with itself and those ahead of it, and drawn ones, of which most answers are short enough.
func pairs(ask func(a, b api.Frac)) {
	l := samples()
	for i, a := range l {
		for _, b := range l[:i+1] {
			ask(a, b)
		}
	}
	r := rand.New(rand.NewPCG(5, 8))
	for range 500 {
		ask(drawnFrac(r, 8), drawnFrac(r, 8))
	}
}

// P8.3: sums and products do not hang on the order, nor does it whether they are too long.
func TestOrder(t *testing.T) {
	told := 0
	pairs(func(a, b api.Frac) {
		for _, call := range []func(a, b api.Frac) (api.Frac, api.Errno){Add, Mul} {
			x, err := call(a, b)
			y, fails := call(b, a)
			if err != fails || !sameFrac(x, y) {
				t.Error("the order:", a, b, x, err, y, fails)
			}
			if err == api.OK {
				told++
			}
		}
	})
	if told < 1000 {
		t.Error("few are told:", told)
	}
}

// P8.3: nor do sums and products of three hang on the order in which they are put together.
func TestOrderOfThree(t *testing.T) {
	ok := must[api.Frac](t)
	r := rand.New(rand.NewPCG(6, 8))
	for range 400 {
		a, b, c := drawnFrac(r, 4), drawnFrac(r, 4), drawnFrac(r, 4)
		if x, y, z := ok(Add(ok(Add(a, b)), c)), ok(Add(a, ok(Add(b, c)))), ok(Add(ok(Add(c, a)), b)); !sameFrac(x, y) || !sameFrac(x, z) {
			t.Error("sums:", a, b, c, x, y, z)
		}
		if x, y, z := ok(Mul(ok(Mul(a, b)), c)), ok(Mul(a, ok(Mul(b, c)))), ok(Mul(ok(Mul(c, a)), b)); !sameFrac(x, y) || !sameFrac(x, z) {
			t.Error("products:", a, b, c, x, y, z)
		}
	}
}

// P8.3: what is added and subtracted is gone, and what is subtracted and added, wherever there is a sum, a difference.
func TestAddedAndSubtracted(t *testing.T) {
	told := 0
	pairs(func(a, b api.Frac) {
		if sum, err := Add(a, b); err == api.OK {
			told++
			if back, err := Sub(sum, b); err != api.OK || !sameFrac(back, a) {
				t.Error("added and subtracted:", a, b, back, err)
			}
		}
		if gap, err := Sub(a, b); err == api.OK {
			told++
			if back, err := Add(gap, b); err != api.OK || !sameFrac(back, a) {
				t.Error("subtracted and added:", a, b, back, err)
			}
		}
	})
	if told < 1000 {
		t.Error("few are told:", told)
	}
}

// sign is that of a fraction's numerator.
func sign(a api.Frac) int { return modint.Cmp(a.Num, modint.Of(0)) }

// P8.3: Cmp of two is the sign of their difference, and of the two the other way round the opposite.
func TestSignOfDifference(t *testing.T) {
	told := 0
	pairs(func(a, b api.Frac) {
		order := Cmp(a, b)
		if Cmp(b, a) != -order || (order == 0) != sameFrac(a, b) {
			t.Error("the other way round:", a, b, order)
		}
		if gap, err := Sub(a, b); err == api.OK {
			told++
			if sign(gap) != order {
				t.Error("the difference:", a, b, gap, order)
			}
		}
	})
	if told < 1000 {
		t.Error("few are told:", told)
	}
}

// P8.3: Floor is at most the fraction, and Floor and 1 above it.
func TestFloorAndOneMore(t *testing.T) {
	r := rand.New(rand.NewPCG(7, 8))
	ok := must[api.Int](t)
	l := samples()
	for range 500 {
		l = append(l, drawnFrac(r, 16))
	}
	for _, a := range l {
		q := ok(Floor(a))
		low, err := Make(q, nat.Of(1))
		if err != api.OK || Cmp(low, a) > 0 {
			t.Error("Floor is above:", a, q, err)
		}
		// Of the greatest whole number alone, the next one is no fraction that may be.
		high, err := Add(low, small(1, 1))
		if isMost := sameFrac(a, by(power(1024, -1), one())); isMost != (err == api.ErrNatLong) || !isMost && (err != api.OK || Cmp(high, a) <= 0) {
			t.Error("Floor and 1 is not above:", a, q, err)
		}
	}
}

// P8.3, P2: two fractions of one value are the same, however they were made.
func TestOneValue(t *testing.T) {
	ok := must[api.Frac](t)
	r := rand.New(rand.NewPCG(8, 8))
	for range 300 {
		a, b := drawnFrac(r, 4), drawnFrac(r, 4) // the squares' difference has at most 16 limbs
		times := drawn(r, 1+r.IntN(50))
		made := ok(Make(parts(product(whole(a.Num), times)), limbs(product(number(a.Den), times))))
		if !sameFrac(made, a) || Cmp(made, a) != 0 || !Right(made) {
			t.Error("made of multiples:", a, times, made)
		}
		apart := ok(Mul(ok(Add(a, b)), ok(Sub(a, b))))
		squares := ok(Sub(ok(Mul(a, a)), ok(Mul(b, b))))
		if !sameFrac(apart, squares) {
			t.Error("sum times difference:", a, b, apart, squares)
		}
	}
}

// P8.3: over small parts, which of all that Make is asked of are of one value is told by the fraction alone.
func TestOneValueOfSmall(t *testing.T) {
	ok := must[api.Frac](t)
	for a := int64(-12); a <= 12; a++ {
		for b := int64(1); b <= 12; b++ {
			for c := int64(-12); c <= 12; c++ {
				for d := int64(1); d <= 12; d++ {
					x, y := ok(Make(modint.Of(a), nat.Of(uint64(b)))), ok(Make(modint.Of(c), nat.Of(uint64(d))))
					if sameFrac(x, y) != (a*d == c*b) {
						t.Fatal("of one value:", a, b, c, d, x, y)
					}
				}
			}
		}
	}
}

// P2: sums of many fractions are exact: 1/1·2 + 1/2·3 + .. is 1 less 1 by the last number.
func TestManySums(t *testing.T) {
	ok := must[api.Frac](t)
	sum := small(0, 1)
	for n := int64(1); n <= 500; n++ {
		sum = ok(Add(sum, small(1, n*(n+1))))
		if !sameFrac(sum, small(n, n+1)) {
			t.Fatal("the sum of", n, sum)
		}
	}
	tower := small(1, 1)
	for n := int64(2); n <= 150; n++ {
		tower = ok(Mul(tower, small(n, 1)))
	}
	want := new(big.Int).MulRange(1, 150)
	if !sameFrac(tower, by(want, one())) {
		t.Error("the product of 1 to 150:", tower)
	}
	for n := int64(150); n >= 2; n-- {
		tower = ok(Mul(tower, small(1, n)))
	}
	if !sameFrac(tower, small(1, 1)) {
		t.Error("the product taken back:", tower)
	}
}

// The document's examples.
func TestExamples(t *testing.T) {
	ok := must[api.Frac](t)
	half, third := ok(Make(modint.Of(1), nat.Of(2))), ok(Make(modint.Of(1), nat.Of(3)))
	if a := ok(Make(modint.Of(6), nat.Of(4))); !sameFrac(a, raw(3, 2)) {
		t.Error("Make(6, 4):", a)
	}
	if a := ok(Make(modint.Of(0), nat.Of(7))); !sameFrac(a, raw(0, 1)) {
		t.Error("Make(0, 7):", a)
	}
	if a := ok(Add(half, third)); !sameFrac(a, raw(5, 6)) {
		t.Error("Add(1/2, 1/3):", a)
	}
	if n := Cmp(third, half); n != -1 {
		t.Error("Cmp(1/3, 1/2):", n)
	}
	if q, err := Floor(raw(-7, 2)); err != api.OK || !sameInt(q, modint.Of(-4)) {
		t.Error("Floor(-7/2):", q, err)
	}
}
