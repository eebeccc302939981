package rational

import (
	"math/big"
	"math/rand/v2"
	"slices"
	"testing"

	"windbreak/api"
	"windbreak/modint"
)

// P8.1: which parts are a fraction's.
func TestRight(t *testing.T) {
	for _, a := range samples() {
		if !Right(a) || !mayFrac(a) {
			t.Error("refused:", a)
		}
	}
	for _, a := range wrong() {
		if Right(a) || mayFrac(a) {
			t.Error("taken:", a)
		}
	}
}

// P8.1: all small parts: a common divisor above 1 is told, of either sign; 0 is by 1 alone.
func TestRightOfSmall(t *testing.T) {
	for num := int64(-40); num <= 40; num++ {
		for den := uint64(0); den <= 40; den++ {
			a := raw(num, den)
			if got, want := Right(a), mayFrac(a); got != want {
				t.Error(num, "by", den, got)
			}
		}
	}
	for _, num := range []api.Int{{}, {Mag: api.Nat{}}} {
		for den := uint64(0); den <= 9; den++ {
			if got := Right(api.Frac{Num: num, Den: raw(0, den).Den}); got != (den == 1) {
				t.Error("0 by", den, got)
			}
		}
	}
	if Right(api.Frac{Num: api.Int{Neg: true}, Den: api.Nat{1}}) || Right(api.Frac{Num: api.Int{Neg: true, Mag: api.Nat{}}, Den: api.Nat{1}}) {
		t.Error("0 with the sign of a number below 0")
	}
}

// P8.1: parts of 16 limbs may be, parts of 17 may not, be it one alone or both.
func TestRightOfLong(t *testing.T) {
	short := []*big.Int{power(1024, -1), power(1023, 0), power(960, 0)}
	long := []*big.Int{power(1024, 0), power(1024, 1), power(1088, -1), power(4095, 0), power(4096, -1)}
	for _, v := range short {
		for _, a := range []api.Frac{by(v, one()), by(opposite(v), one()), by(one(), v), by(v, power(1024, -3)), by(power(1024, -3), v)} {
			if !Right(a) {
				t.Error("of 16 limbs:", a)
			}
		}
	}
	for _, v := range long {
		next := new(big.Int).Add(v, one())
		for _, a := range []api.Frac{by(v, one()), by(opposite(v), one()), by(one(), v), by(v, next), by(next, v), by(v, power(1023, 7)), by(power(1023, 7), v)} {
			if Right(a) {
				t.Error("of more than 16 limbs:", a)
			}
		}
	}
}

// P8.1: a common divisor is told of long parts too, whichever it is.
func TestRightOfCommon(t *testing.T) {
	r := rand.New(rand.NewPCG(2, 8))
	for range 300 {
		a := drawnFrac(r, 8)
		if whole(a.Num).Sign() == 0 {
			continue
		}
		if !Right(a) {
			t.Error("refused:", a)
		}
		divisor := new(big.Int).Add(drawn(r, r.IntN(9)), big.NewInt(2))
		b := api.Frac{Num: parts(product(whole(a.Num), divisor)), Den: limbs(product(number(a.Den), divisor))}
		if Right(b) {
			t.Error("taken:", b, divisor)
		}
	}
}

// P8.1: Make of small parts, those that have a common divisor among them, of either sign, by 0 and by 1.
func TestMake(t *testing.T) {
	for num := int64(-40); num <= 40; num++ {
		for den := uint64(0); den <= 40; den++ {
			a := raw(num, den)
			checkMake(t, a.Num, a.Den)
		}
	}
	for _, c := range []struct {
		num     int64
		den     uint64
		wantNum int64
		wantDen api.Nat
	}{
		{6, 4, 3, api.Nat{2}}, {-6, 4, -3, api.Nat{2}}, {4, 6, 2, api.Nat{3}}, {5, 5, 1, api.Nat{1}}, {-5, 5, -1, api.Nat{1}}, {8, 2, 4, api.Nat{1}},
		{0, 1, 0, api.Nat{1}}, {0, 7, 0, api.Nat{1}}, {0, top, 0, api.Nat{1}}, {1, top, 1, api.Nat{top}}, {-1 << 63, 1 << 63, -1, api.Nat{1}},
	} {
		a := raw(c.num, c.den)
		if got, err := Make(a.Num, a.Den); err != api.OK || !sameFrac(got, api.Frac{Num: modint.Of(c.wantNum), Den: c.wantDen}) {
			t.Error(c, got, err)
		}
	}
}

// P8.1: Make of the parts of all samples, and of those times some number: it is the same fraction.
func TestMakeOfSamples(t *testing.T) {
	for _, a := range samples() {
		checkMake(t, a.Num, a.Den)
		for _, times := range []*big.Int{one(), big.NewInt(2), big.NewInt(3), power(64, 0), power(1024, -1), power(3072, -1)} {
			num, den := parts(product(whole(a.Num), times)), limbs(product(number(a.Den), times))
			if got, err := Make(num, den); err != api.OK || !sameFrac(got, a) || !Right(got) {
				t.Error(num, den, got, err)
			}
		}
	}
}

// P8.1: Make of up to 64 limbs is told if it has 16 once the common divisor is out; with 17 on either side it is ErrNatLong.
func TestMakeOfLong(t *testing.T) {
	common := power(3072, -1) // of 48 limbs: with 16 more it is a part of 64
	for _, c := range []struct {
		num, den *big.Int
		want     api.Errno
	}{
		{power(1024, -1), one(), api.OK}, {power(1024, -1), power(1023, 0), api.OK}, {one(), power(1024, -1), api.OK}, {power(1023, 0), power(1024, -1), api.OK},
		{power(1024, 0), one(), api.ErrNatLong}, {one(), power(1024, 0), api.ErrNatLong}, {power(1024, 1), power(1024, 0), api.ErrNatLong},
		{power(1024, -1), power(1024, 0), api.ErrNatLong}, {power(1024, 0), power(1024, -1), api.ErrNatLong},
	} {
		for _, times := range []*big.Int{one(), big.NewInt(6), power(64, 0), power(1024, 0), power(3007, 0), common} {
			for _, num := range []*big.Int{c.num, opposite(c.num)} {
				x, y := parts(product(num, times)), limbs(product(c.den, times))
				if len(x.Mag) > 64 || len(y) > 64 {
					continue
				}
				if got, err := Make(x, y); err != c.want || err == api.OK && !sameFrac(got, by(num, c.den)) {
					t.Error(num, c.den, times, got, err)
				}
				checkMake(t, x, y)
			}
		}
	}
	whole64 := parts(opposite(product(common, power(1024, -1))))
	if got, err := Make(whole64, limbs(common)); len(whole64.Mag) != 64 || err != api.OK || len(got.Num.Mag) != 16 || !slices.Equal(got.Den, api.Nat{1}) {
		t.Error("of 64 limbs by 48:", got, err)
	}
}

// P8.1: of parts of all lengths, whether they are short in the end or not; 0 is never too long.
func TestMakeOfDrawn(t *testing.T) {
	r := rand.New(rand.NewPCG(3, 8))
	for range 150 {
		num, den := parts(drawn(r, r.IntN(65))), limbs(drawn(r, 1+r.IntN(64)))
		num.Neg = len(num.Mag) > 0 && r.IntN(2) == 0
		checkMake(t, num, den)
	}
	checkMake(t, api.Int{}, filled(64, top))
	checkMake(t, api.Int{Mag: filled(64, top)}, filled(64, top))
	checkMake(t, api.Int{Neg: true, Mag: filled(64, top)}, filled(64, top))
}

// P8.1: what may not be is ErrArg ahead of the denominator 0, and that is ErrNatZero ahead of a part that is too long.
func TestMakeOfWrong(t *testing.T) {
	dens := append([]api.Nat{nil, {}, {1}, {6}, filled(16, top), filled(17, 1), filled(64, top)}, wrongLimbs()...)
	nums := append([]api.Int{{}, {Mag: api.Nat{}}, modint.Of(1), modint.Of(-6), {Mag: filled(17, 1)}, {Neg: true, Mag: filled(64, top)}}, wrongWholes()...)
	for _, num := range nums {
		for _, den := range dens {
			checkMake(t, num, den)
		}
	}
	got, err := Make(api.Int{Neg: true}, nil)
	refused(t, "of 0 below 0 by 0", got, err, api.ErrArg)
	got, err = Make(modint.Of(1), api.Nat{0})
	refused(t, "by a limb 0", got, err, api.ErrArg)
	got, err = Make(api.Int{Mag: filled(64, top)}, nil)
	refused(t, "of 64 limbs by 0", got, err, api.ErrNatZero)
	got, err = Make(api.Int{}, api.Nat{})
	refused(t, "of 0 by 0", got, err, api.ErrNatZero)
	got, err = Make(api.Int{Neg: true, Mag: api.Nat{}}, filled(64, top))
	refused(t, "of 0 below 0 by 64 limbs", got, err, api.ErrArg)
}

// P8.1: the order of fractions, those that are the same among them; of what may not be, it is 0.
func TestCmp(t *testing.T) {
	all := samples()
	for _, a := range all {
		for _, b := range all {
			checkCmp(t, a, b)
		}
		if again := frac(ratio(a)); Cmp(a, again) != 0 {
			t.Error("of the same:", a)
		}
	}
	for _, w := range wrong() {
		for _, a := range append(few(), wrong()...) {
			if Cmp(w, a) != 0 || Cmp(a, w) != 0 {
				t.Error("of what may not be:", w, a)
			}
		}
	}
}

// P8.1: the order of all small fractions, and of some that are as near as may be.
func TestCmpOfNear(t *testing.T) {
	for a := int64(-9); a <= 9; a++ {
		for b := int64(1); b <= 9; b++ {
			for c := int64(-9); c <= 9; c++ {
				for d := int64(1); d <= 9; d++ {
					checkCmp(t, small(a, b), small(c, d))
				}
			}
		}
	}
	for n := uint(2); n <= 1023; n += 7 {
		below, above := by(power(n, -1), power(n, 0)), by(power(n, 0), power(n, 1))
		if Cmp(below, above) != -1 || Cmp(above, below) != 1 || Cmp(above, small(1, 1)) != -1 || Cmp(small(1, 1), below) != 1 {
			t.Error("near 1:", n)
		}
		under, over := by(opposite(power(n, 0)), power(n, 1)), by(opposite(power(n, -1)), power(n, 0))
		if Cmp(under, over) != -1 || Cmp(over, under) != 1 || Cmp(under, above) != -1 || Cmp(above, under) != 1 {
			t.Error("near -1:", n)
		}
	}
}
