package paillier

import (
	"windbreak/api"
	"windbreak/mont"
	"windbreak/nat"
)

// sure is what a reckoning answers that has no error, as its numbers were looked at before: they have at most 6 limbs.
func sure(reckon func(a, b api.Nat) (api.Nat, api.Errno), a, b api.Nat) api.Nat {
	told, _ := reckon(a, b)
	return told
}

// square is n times n, by which all products and powers of cipher texts are.
func square(n api.Nat) api.Nat {
	return sure(nat.Mul, n, n)
}

// product is that of two numbers, by n times n.
func product(n, a, b api.Nat) api.Nat {
	return restOf(sure(nat.Mul, a, b), square(n))
}

// power is a, which is below n times n, to the power of e, by that.
func power(n, a, e api.Nat) api.Nat {
	ring, _ := mont.New(square(n)) // it is odd and has at most 3 limbs, so there is no error
	return sure(ring.Exp, a, e)
}

// restOf is what a number leaves by another one, which is not 0.
func restOf(a, by api.Nat) api.Nat {
	_, rest, _ := nat.Div(a, by)
	return rest
}
