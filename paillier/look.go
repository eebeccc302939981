package paillier

import (
	"windbreak/api"
	"windbreak/modint"
	"windbreak/nat"
)

// argument is a number that is handed in: what it must be of a public key, and the error if it is not.
type argument struct {
	number api.Nat
	mustBe func(n, a api.Nat) bool
	fault  api.Errno
}

func cipher(c api.Nat) argument { return argument{c, isCipher, api.ErrCipher} }

func plain(m api.Nat) argument { return argument{m, isBelow, api.ErrPlain} }

func hider(r api.Nat) argument { return argument{r, isHider, api.ErrArg} }

// faultOf is the error of a public key, or else that of the first argument that is not what it must be: they are handed in by the order in which the document names their errors.
func faultOf(n api.Nat, given ...argument) api.Errno {
	if !May(n) {
		return api.ErrArg
	}
	for _, a := range given {
		if !a.mustBe(n, a.number) {
			return a.fault
		}
	}
	return api.OK
}

// isBelow tells whether a number may be and is below n, which is all that a plain text must be.
func isBelow(n, a api.Nat) bool {
	return nat.Right(a) && nat.Cmp(a, n) < 0
}

func isHider(n, r api.Nat) bool {
	return isBelow(n, r) && apart(n, r)
}

func isCipher(n, c api.Nat) bool {
	return isBelow(square(n), c) && apart(n, c)
}

// apart tells whether a number has no common divisor with n above 1. So 0 is never apart: its common divisor with n is n.
func apart(n, a api.Nat) bool {
	return nat.Cmp(sure(modint.Gcd, a, n), nat.Of(1)) == 0
}
