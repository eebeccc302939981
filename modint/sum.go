package modint

import (
	"windbreak/api"
	"windbreak/nat"
)

// Add is the sum of two whole numbers.
func Add(a, b api.Int) (api.Int, api.Errno) {
	if !Right(a) || !Right(b) {
		return api.Int{}, api.ErrArg
	}
	if a.Neg != b.Neg {
		return apart(a, b), api.OK
	}
	size, err := nat.Add(a.Mag, b.Mag)
	return signed(a.Neg, size), err
}

// Sub is the difference of two whole numbers.
func Sub(a, b api.Int) (api.Int, api.Errno) {
	// Asked here, as the opposite of what may not be is 0, which may be.
	if !Right(b) {
		return api.Int{}, api.ErrArg
	}
	return Add(a, Neg(b))
}

// Mul is the product of two whole numbers.
func Mul(a, b api.Int) (api.Int, api.Errno) {
	if !Right(a) || !Right(b) {
		return api.Int{}, api.ErrArg
	}
	size, err := nat.Mul(a.Mag, b.Mag)
	return signed(a.Neg != b.Neg, size), err
}

// Floor is the greatest whole number that times b is not above a; and what is left of a then.
func Floor(a, b api.Int) (api.Int, api.Int, api.Errno) {
	if !Right(a) || !Right(b) || b.Neg {
		return api.Int{}, api.Int{}, api.ErrArg
	}
	q, rest, err := nat.Div(a.Mag, b.Mag) // ErrNatZero, if b is 0
	if a.Neg && len(rest) > 0 {
		q, rest = oneFurther(q, rest, b.Mag)
	}
	return signed(a.Neg, q), signed(false, rest), err
}

// apart is the sum of two whole numbers of which one is below 0 and the other is not: it is no longer than they are, so there is no error.
func apart(a, b api.Int) api.Int {
	if nat.Cmp(a.Mag, b.Mag) < 0 {
		a, b = b, a
	}
	size, _ := nat.Sub(a.Mag, b.Mag)
	return signed(a.Neg, size)
}

// oneFurther is the quotient and the rest of a number below 0, of those of its size: b does not divide it, so that it lies between two multiples of b, and the one below it is the greater in size. As 1 divides all, b is 2 or more, and the quotient has room for 1: there are no errors, and ErrNatLong is never told.
func oneFurther(q, rest, b api.Nat) (api.Nat, api.Nat) {
	more, _ := nat.Add(q, nat.Of(1))
	left, _ := nat.Sub(b, rest)
	return more, left
}
