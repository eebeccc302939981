package rational

import (
	"windbreak/api"
	"windbreak/modint"
	"windbreak/nat"
)

// Add is the sum of two fractions.
func Add(a, b api.Frac) (api.Frac, api.Errno) {
	if !mayBe(Right, a, b) {
		return api.Frac{}, api.ErrArg
	}
	x, y, den := alike(a, b)
	num, _ := modint.Add(x, y)
	return lowest(num, den)
}

// Sub is the difference of two fractions.
func Sub(a, b api.Frac) (api.Frac, api.Errno) {
	if !mayBe(Right, a, b) {
		return api.Frac{}, api.ErrArg
	}
	x, y, den := alike(a, b)
	num, _ := modint.Sub(x, y)
	return lowest(num, den)
}

// Mul is the product of two fractions.
func Mul(a, b api.Frac) (api.Frac, api.Errno) {
	if !mayBe(Right, a, b) {
		return api.Frac{}, api.ErrArg
	}
	num, _ := modint.Mul(a.Num, b.Num)
	den, _ := nat.Mul(a.Den, b.Den)
	return lowest(num, den)
}

// Floor is the greatest whole number not above a fraction.
func Floor(a api.Frac) (api.Int, api.Errno) {
	if !mayBe(Right, a) {
		return api.Int{}, api.ErrArg
	}
	q, _, _ := modint.Floor(a.Num, wholeOf(a.Den)) // Den is above 0, and q is no longer than Num, so there is no error
	return q, api.OK
}
