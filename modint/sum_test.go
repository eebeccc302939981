package modint

import (
	"math/big"
	"testing"

	"windbreak/api"
)

// P3.2: sums, differences and products by another reckoning, too long ones among them.
func TestSums(t *testing.T) {
	for _, a := range samples() {
		for _, b := range samples() {
			x, y := whole(a), whole(b)
			s, err := Add(a, b)
			check(t, "sum", s, err, new(big.Int).Add(x, y))
			s, err = Sub(a, b)
			check(t, "difference", s, err, new(big.Int).Sub(x, y))
			s, err = Mul(a, b)
			check(t, "product", s, err, new(big.Int).Mul(x, y))
		}
	}
}

// P3.2: all small whole numbers.
func TestSmallSums(t *testing.T) {
	for a := int64(-20); a <= 20; a++ {
		for b := int64(-20); b <= 20; b++ {
			s, err := Add(Of(a), Of(b))
			check(t, "sum", s, err, big.NewInt(a+b))
			s, err = Sub(Of(a), Of(b))
			check(t, "difference", s, err, big.NewInt(a-b))
			s, err = Mul(Of(a), Of(b))
			check(t, "product", s, err, big.NewInt(a*b))
		}
	}
}

// P3.2: a Mag of 64 limbs is told, one of 65 is ErrNatLong, above 0 and below.
func TestLongSums(t *testing.T) {
	most, one := filled(64, top), Of(1)
	high, low := From(false, most), From(true, most)
	half, half64 := From(true, power(2047)), From(false, power(2048))

	s, err := Add(From(true, less(most, 1)), Of(-1))
	check(t, "the least sum", s, err, whole(low))
	s, err = Add(low, Of(-1))
	refused(t, "one below the least", s, err, api.ErrNatLong)
	s, err = Add(high, one)
	refused(t, "one above the greatest", s, err, api.ErrNatLong)
	s, err = Add(high, low)
	check(t, "of the greatest and the least", s, err, new(big.Int))
	s, err = Sub(low, one)
	refused(t, "the least less 1", s, err, api.ErrNatLong)
	s, err = Sub(high, Of(-1))
	refused(t, "the greatest less -1", s, err, api.ErrNatLong)
	s, err = Sub(low, low)
	check(t, "the least less itself", s, err, new(big.Int))
	s, err = Sub(high, low)
	refused(t, "the greatest less the least", s, err, api.ErrNatLong)
	s, err = Mul(half, half64)
	check(t, "a product of 64 limbs", s, err, new(big.Int).Neg(number(power(4095))))
	s, err = Mul(Neg(half64), half64)
	refused(t, "a product of 65 limbs", s, err, api.ErrNatLong)
	s, err = Mul(low, Of(-1))
	check(t, "the least times -1", s, err, whole(high))
	s, err = Mul(low, Of(0))
	check(t, "the least times 0", s, err, new(big.Int))
}

// checkFloor asks of Floor's answer that it is another reckoning's.
func checkFloor(t *testing.T, a, b api.Int) {
	t.Helper()
	q, rest, err := Floor(a, b)
	// With a divisor above 0, this quotient is the floor.
	wantQ, wantRest := new(big.Int).DivMod(whole(a), whole(b), new(big.Int))
	check(t, "quotient", q, err, wantQ)
	check(t, "rest", rest, err, wantRest)
}

// P3.2: Floor of all samples by those above 0.
func TestFloor(t *testing.T) {
	for _, a := range samples() {
		for _, b := range samples() {
			if whole(b).Sign() > 0 {
				checkFloor(t, a, b)
			}
		}
	}
	for a := int64(-40); a <= 40; a++ {
		for b := int64(1); b <= 15; b++ {
			checkFloor(t, Of(a), Of(b))
		}
	}
}

// P3.2: Floor of numbers below 0, that divide and that don't, and by 1.
func TestFloorBelowZero(t *testing.T) {
	for _, c := range [][4]int64{
		{7, 2, 3, 1}, {-7, 2, -4, 1}, {-8, 2, -4, 0}, {8, 2, 4, 0}, {-1, 2, -1, 1}, {-1, 1000, -1, 999}, {1, 1000, 0, 1},
		{0, 5, 0, 0}, {0, 1, 0, 0}, {-5, 1, -5, 0}, {5, 1, 5, 0}, {-5, 5, -1, 0}, {-4, 5, -1, 1}, {-6, 5, -2, 4},
		{-1 << 63, 1, -1 << 63, 0}, {-1 << 63, 1<<63 - 1, -2, 1<<63 - 2},
	} {
		q, rest, err := Floor(Of(c[0]), Of(c[1]))
		check(t, "quotient", q, err, big.NewInt(c[2]))
		check(t, "rest", rest, err, big.NewInt(c[3]))
	}
}

// P3.2: the longest quotients, of 64 limbs. (None has 65: a number that leaves a rest is divided by 2 or more.)
func TestLongQuotients(t *testing.T) {
	most := filled(64, top)
	for _, mag := range []api.Nat{most, less(most, 1), power(4095), plus(power(4095), 1)} {
		for _, neg := range []bool{false, true} {
			for _, b := range []api.Int{Of(1), Of(2), Of(3), From(false, api.Nat{top}), From(false, power(64)), From(false, most)} {
				checkFloor(t, From(neg, mag), b)
			}
		}
	}
	q, rest, err := Floor(From(true, most), Of(1))
	check(t, "the least by 1", q, err, new(big.Int).Neg(number(most)))
	check(t, "its rest", rest, err, new(big.Int))
	q, rest, err = Floor(From(true, most), Of(2))
	check(t, "the least by 2", q, err, new(big.Int).Neg(number(power(4095))))
	check(t, "its rest", rest, err, big.NewInt(1))
}

// P3.2: Floor by 0 and by less than 0.
func TestFloorByWrong(t *testing.T) {
	for _, a := range samples() {
		for _, b := range []api.Int{{}, {Mag: api.Nat{}}} {
			q, rest, err := Floor(a, b)
			refused(t, "quotient by 0", q, err, api.ErrNatZero)
			refused(t, "rest by 0", rest, err, api.ErrNatZero)
		}
		for _, b := range samples() {
			if b.Neg {
				q, rest, err := Floor(a, b)
				refused(t, "quotient by less than 0", q, err, api.ErrArg)
				refused(t, "rest by less than 0", rest, err, api.ErrArg)
			}
		}
	}
}

// P3.2: what may not be is ErrArg ahead of all else: of ErrNatLong, and of ErrNatZero.
func TestWrongWholes(t *testing.T) {
	calls := []func(a, b api.Int) (api.Int, api.Errno){Add, Sub, Mul}
	for _, w := range wrong() {
		for _, a := range append(samples(), wrong()...) {
			for _, call := range calls {
				s, err := call(a, w)
				refused(t, "behind", s, err, api.ErrArg)
				s, err = call(w, a)
				refused(t, "ahead", s, err, api.ErrArg)
			}
			q, rest, err := Floor(a, w)
			refused(t, "quotient", q, err, api.ErrArg)
			refused(t, "rest", rest, err, api.ErrArg)
			q, rest, err = Floor(w, a)
			refused(t, "quotient of it", q, err, api.ErrArg)
			refused(t, "rest of it", rest, err, api.ErrArg)
		}
	}
}
