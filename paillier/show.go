package paillier

import (
	"windbreak/api"
	"windbreak/modint"
	"windbreak/nat"
)

// Decrypt tells what a cipher text hides.
func Decrypt(k api.Key, c api.Nat) (api.Nat, api.Errno) {
	n, err := Public(k)
	if err != api.OK {
		return nil, err
	}
	if err := faultOf(n, cipher(c)); err != api.OK {
		return nil, err
	}
	f := sure(nat.Mul, nat.Of(k.P-1), nat.Of(k.Q-1))
	// To the power of f what hides falls away: 1 is left, and f times the plain text times n.
	v := timesOf(n, power(n, c, f))
	return restOf(sure(nat.Mul, v, sure(modint.Inverse, f, n)), n), api.OK
}

// timesOf is how many times n a bare cipher text is above 1.
func timesOf(n, u api.Nat) api.Nat {
	times, _, _ := nat.Div(sure(nat.Sub, u, nat.Of(1)), n) // u is a power of a cipher text, so it is above 0; n is, too: there are no errors
	return times
}
