package rational

import (
	"math/big"
	"math/rand/v2"
	"slices"
	"testing"

	"windbreak/api"
	"windbreak/modint"
)

const top = ^uint64(0)

// number is limbs as a number of another reckoning than the program's own; limbs is back again, however many.
func number(a api.Nat) *big.Int {
	v := new(big.Int)
	for _, limb := range slices.Backward(a) {
		v.Or(v.Lsh(v, 64), new(big.Int).SetUint64(limb))
	}
	return v
}

func limbs(v *big.Int) api.Nat {
	var a api.Nat
	mask := new(big.Int).SetUint64(top)
	for v = new(big.Int).Abs(v); v.Sign() > 0; v.Rsh(v, 64) {
		a = append(a, new(big.Int).And(v, mask).Uint64())
	}
	return a
}

// whole is a whole number by the other reckoning; parts is back again.
func whole(a api.Int) *big.Int {
	v := number(a.Mag)
	if a.Neg {
		v.Neg(v)
	}
	return v
}

func parts(v *big.Int) api.Int { return api.Int{Neg: v.Sign() < 0, Mag: limbs(v)} }

// ratio is a fraction, whose Den is not 0, by the other reckoning, which keeps it in lowest terms; frac is back again.
func ratio(a api.Frac) *big.Rat { return new(big.Rat).SetFrac(whole(a.Num), number(a.Den)) }

func frac(v *big.Rat) api.Frac { return api.Frac{Num: parts(v.Num()), Den: limbs(v.Denom())} }

// small is a fraction of small parts, in lowest terms; raw is one of parts as they are.
func small(num, den int64) api.Frac { return frac(big.NewRat(num, den)) }

func raw(num int64, den uint64) api.Frac {
	return api.Frac{Num: modint.Of(num), Den: limbs(new(big.Int).SetUint64(den))}
}

// power is 2 to the power of n, and so much more or less; by is one number by another.
func power(n uint, more int64) *big.Int {
	return new(big.Int).Add(new(big.Int).Lsh(big.NewInt(1), n), big.NewInt(more))
}

func by(num, den *big.Int) api.Frac { return frac(new(big.Rat).SetFrac(num, den)) }

func one() *big.Int { return big.NewInt(1) }

func opposite(v *big.Int) *big.Int { return new(big.Int).Neg(v) }

func product(a, b *big.Int) *big.Int { return new(big.Int).Mul(a, b) }

// filled is so many limbs, each the same.
func filled(count int, limb uint64) api.Nat { return slices.Repeat(api.Nat{limb}, count) }

// drawn is a number of so many limbs, of which many are 0 or the greatest, where carries go far.
func drawn(r *rand.Rand, count int) *big.Int {
	a := make(api.Nat, count)
	for i := range a {
		a[i] = []uint64{0, top, r.Uint64(), r.Uint64()}[r.IntN(4)]
	}
	if count > 0 && a[count-1] == 0 {
		a[count-1] = 1 + r.Uint64N(3)
	}
	return number(a)
}

// drawnFrac is one whose parts have at most so many limbs, of either sign.
func drawnFrac(r *rand.Rand, most int) api.Frac {
	num, den := drawn(r, r.IntN(most+1)), drawn(r, 1+r.IntN(most))
	if r.IntN(2) == 0 {
		num.Neg(num)
	}
	return by(num, den)
}

// samples are fractions that may be: the edges that the document names, and others of many lengths, of either sign.
func samples() []api.Frac {
	r := rand.New(rand.NewPCG(1, 8))
	most := power(1024, -1)
	l := []api.Frac{
		small(0, 1), small(1, 1), small(1, 2), small(1, 3), small(2, 3), small(3, 2), small(5, 6), small(7, 2), small(8, 1), small(1<<62, 1<<62-1),
		by(power(64, 0), one()), by(one(), power(64, 0)), by(power(64, 1), power(64, 0)),
		by(most, one()), by(one(), most), by(most, power(1024, -2)), by(power(1024, -2), most), by(power(1023, 0), most), by(most, power(1023, 0)),
		by(power(512, 0), one()), by(one(), power(512, 0)), by(power(512, -1), power(512, 0)), by(power(512, 1), power(511, 0)),
		by(power(960, 0), one()), by(one(), power(960, 0)), by(power(960, -1), power(1023, 0)),
	}
	for _, n := range []int{1, 2, 3, 7, 8, 9, 15, 16} {
		l = append(l, by(drawn(r, n), drawn(r, n)), by(drawn(r, n), drawn(r, 1)), by(drawn(r, 1), drawn(r, n)))
	}
	for _, a := range slices.Clone(l) {
		if len(a.Num.Mag) > 0 {
			l = append(l, api.Frac{Num: api.Int{Neg: !a.Num.Neg, Mag: a.Num.Mag}, Den: a.Den})
		}
	}
	return l
}

// few are some fractions that may be, of all kinds.
func few() []api.Frac {
	return []api.Frac{
		small(0, 1), small(1, 1), small(-1, 1), small(1, 2), small(-7, 2), small(5, 6), by(power(64, 0), big.NewInt(3)), by(opposite(power(512, 1)), power(64, 0)),
		by(power(1024, -1), one()), by(opposite(power(1024, -1)), one()), by(one(), power(1024, -1)), by(power(1024, -1), power(1023, 0)),
	}
}

// wrongLimbs are those that are no number's; wrongWholes are parts that are no whole number's.
func wrongLimbs() []api.Nat {
	return []api.Nat{{0}, {1, 0}, {0, 0}, {top, top, 0}, append(filled(7, 1), 0), append(filled(15, 1), 0), append(filled(16, 1), 0), append(filled(63, 1), 0), filled(65, 1), filled(65, 0), filled(1000, 3)}
}

func wrongWholes() []api.Int {
	l := []api.Int{{Neg: true}, {Neg: true, Mag: api.Nat{}}}
	for _, a := range wrongLimbs() {
		l = append(l, api.Int{Mag: a}, api.Int{Neg: true, Mag: a})
	}
	return l
}

// wrong are fractions that may not be, most of them for one reason alone.
func wrong() []api.Frac {
	long := append(filled(16, 0), 1)
	l := []api.Frac{
		{}, raw(1, 0), raw(-1, 0), {Num: modint.Of(1), Den: api.Nat{}},
		raw(0, 2), raw(0, 7), {Den: filled(16, top)}, raw(2, 2), raw(-2, 2), raw(2, 4), raw(-2, 4), raw(6, 4), raw(12, 18), raw(1<<40, 1<<20),
		{Num: api.Int{Neg: true}, Den: api.Nat{1}}, {Num: api.Int{Neg: true, Mag: api.Nat{}}, Den: api.Nat{1}},
		{Num: api.Int{Mag: long}, Den: api.Nat{1}}, {Num: api.Int{Neg: true, Mag: long}, Den: api.Nat{1}}, {Num: modint.Of(1), Den: long}, {Num: modint.Of(-1), Den: long},
		{Num: api.Int{Mag: filled(64, top)}, Den: api.Nat{1}}, {Num: modint.Of(1), Den: filled(64, top)},
		{Num: api.Int{Mag: filled(16, top)}, Den: filled(16, top)}, {Num: api.Int{Mag: filled(16, 2)}, Den: append(filled(15, 0), 2)},
	}
	for _, a := range wrongLimbs() {
		l = append(l, api.Frac{Num: modint.Of(1), Den: a})
	}
	for _, a := range wrongWholes() {
		l = append(l, api.Frac{Num: a, Den: api.Nat{1}})
	}
	return l
}

// mayNat, mayInt and mayFrac tell by the other reckoning whether parts may be.
func mayNat(a api.Nat) bool {
	return len(a) <= 64 && slices.Equal(limbs(number(a)), a)
}

func mayInt(a api.Int) bool {
	return mayNat(a.Mag) && (!a.Neg || len(a.Mag) > 0)
}

func mayFrac(a api.Frac) bool {
	if !mayInt(a.Num) || !mayNat(a.Den) || len(a.Den) == 0 || len(a.Num.Mag) > 16 || len(a.Den) > 16 {
		return false
	}
	return sameFrac(frac(ratio(a)), a)
}

// sameInt and sameFrac compare parts; nil and empty are the same.
func sameInt(a, b api.Int) bool { return a.Neg == b.Neg && slices.Equal(a.Mag, b.Mag) }

func sameFrac(a, b api.Frac) bool { return sameInt(a.Num, b.Num) && slices.Equal(a.Den, b.Den) }

// noFrac and noInt tell whether an answer is the zero value.
func noFrac(a api.Frac) bool { return noInt(a.Num) && a.Den == nil }

func noInt(a api.Int) bool { return !a.Neg && a.Mag == nil }

// check asks of an answer that it is a fraction, and which one: ErrNatLong, if that is too long.
func check(t *testing.T, what string, got api.Frac, err api.Errno, want *big.Rat) {
	t.Helper()
	f := frac(want)
	if len(f.Num.Mag) > 16 || len(f.Den) > 16 {
		refused(t, what, got, err, api.ErrNatLong)
	} else if err != api.OK || !sameFrac(got, f) {
		t.Errorf("%s: %v, error %d; asked %v", what, got, err, f)
	}
}

// refused asks of an answer that it is an error, and nothing beside.
func refused(t *testing.T, what string, got api.Frac, err, want api.Errno) {
	t.Helper()
	if err != want || !noFrac(got) {
		t.Errorf("%s: %v, error %d; asked error %d", what, got, err, want)
	}
}

// call is one on two fractions, with the same by the other reckoning.
type call struct {
	name string
	ask  func(a, b api.Frac) (api.Frac, api.Errno)
	want func(z, a, b *big.Rat) *big.Rat
}

func calls() []call {
	return []call{{"Add", Add, (*big.Rat).Add}, {"Sub", Sub, (*big.Rat).Sub}, {"Mul", Mul, (*big.Rat).Mul}}
}

// check asks a call of two fractions, whether they may be or not.
func (c call) check(t *testing.T, a, b api.Frac) {
	t.Helper()
	got, err := c.ask(a, b)
	if !mayFrac(a) || !mayFrac(b) {
		refused(t, c.name, got, err, api.ErrArg)
		return
	}
	check(t, c.name, got, err, c.want(new(big.Rat), ratio(a), ratio(b)))
}

// checkMake asks Make of parts, whether they may be or not.
func checkMake(t *testing.T, num api.Int, den api.Nat) {
	t.Helper()
	got, err := Make(num, den)
	switch {
	case !mayInt(num) || !mayNat(den):
		refused(t, "Make", got, err, api.ErrArg)
	case len(den) == 0:
		refused(t, "Make", got, err, api.ErrNatZero)
	default:
		check(t, "Make", got, err, new(big.Rat).SetFrac(whole(num), number(den)))
	}
}

// checkCmp asks the order of two fractions, whether they may be or not.
func checkCmp(t *testing.T, a, b api.Frac) {
	t.Helper()
	want := 0
	if mayFrac(a) && mayFrac(b) {
		want = ratio(a).Cmp(ratio(b))
	}
	if got := Cmp(a, b); got != want {
		t.Errorf("Cmp of %v and %v: %d; asked %d", a, b, got, want)
	}
}

// checkFloor asks Floor of a fraction, whether it may be or not.
func checkFloor(t *testing.T, a api.Frac) {
	t.Helper()
	got, err := Floor(a)
	if !mayFrac(a) {
		if err != api.ErrArg || !noInt(got) {
			t.Errorf("Floor of %v: %v, error %d; asked ErrArg", a, got, err)
		}
		return
	}
	// With a divisor above 0, this quotient is rounded down.
	want := new(big.Int).Div(whole(a.Num), number(a.Den))
	if err != api.OK || !sameInt(got, parts(want)) {
		t.Errorf("Floor of %v: %v, error %d; asked %v", a, got, err, want)
	}
}

// must takes an answer that has no error.
func must[A any](t *testing.T) func(a A, err api.Errno) A {
	return func(a A, err api.Errno) A {
		t.Helper()
		if err != api.OK {
			t.Fatal("error", err)
		}
		return a
	}
}
