package modint

import (
	"slices"

	"windbreak/api"
	"windbreak/nat"
)

// Gcd is the greatest number that divides both.
func Gcd(a, b api.Nat) (api.Nat, api.Errno) {
	if !nat.Right(a) || !nat.Right(b) {
		return nil, api.ErrArg
	}
	step := euclid(a, b)
	told, more := step()
	for more {
		told, more = step()
	}
	return slices.Clone(told), api.OK
}

// Inverse is the number below n that times a leaves 1 by n.
func Inverse(a, n api.Nat) (api.Nat, api.Errno) {
	if !nat.Right(a) || !nat.Right(n) || nat.Cmp(n, nat.Of(2)) < 0 {
		return nil, api.ErrArg
	}
	divisor, factor := divisorOf(a, n)
	if nat.Cmp(divisor, nat.Of(1)) != 0 {
		return nil, api.ErrNoInverse
	}
	return restBy(factor, n), api.OK
}

// Crt is the number below m times n that leaves a by m and b by n.
func Crt(a, m, b, n api.Nat) (api.Nat, api.Errno) {
	if !isRest(a, m) || !isRest(b, n) {
		return nil, api.ErrArg
	}
	back, err := Inverse(m, n)
	if err != api.OK {
		return nil, err
	}
	// It is a, and as many m more as bring it from a to b by n. The moduli have at most 8 limbs, so there are no errors.
	way, _ := Sub(From(false, b), From(false, a))
	times, _ := Mul(way, From(false, back))
	more, _ := nat.Mul(restBy(times, n), m)
	return nat.Add(a, more)
}

// euclid is Euclid's steps on two numbers, one a call: it tells the step's quotient and true; or, when nothing is left to divide by, what divides both, and false.
func euclid(a, b api.Nat) func() (api.Nat, bool) {
	return func() (api.Nat, bool) {
		if len(b) == 0 {
			return a, false
		}
		q, rest, _ := nat.Div(a, b) // b is not 0, so there is no error
		a, b = b, rest
		return q, true
	}
}

// divisorOf is the greatest number that divides a and n, and a factor of which a times it leaves that number by n.
func divisorOf(a, n api.Nat) (api.Nat, api.Int) {
	// Each of Euclid's rests is a times a factor, but for some n: n itself with the factor 0, a with 1. No factor's size is above n, nor is a product's, so there are no errors.
	factor, next := Of(0), Of(1)
	step := euclid(n, a)
	told, more := step()
	for more {
		times, _ := Mul(From(false, told), next)
		after, _ := Sub(factor, times)
		factor, next = next, after
		told, more = step()
	}
	return told, factor
}

// restBy is the rest of a whole number by n, which is above 0.
func restBy(a api.Int, n api.Nat) api.Nat {
	_, rest, _ := Floor(a, From(false, n))
	return rest.Mag
}

// isRest tells whether n is a modulus of which Crt may be asked, and a is a rest by it.
func isRest(a, n api.Nat) bool {
	return nat.Right(a) && nat.Right(n) && len(n) <= api.MaxMod && nat.Cmp(n, nat.Of(2)) >= 0 && nat.Cmp(a, n) < 0
}
