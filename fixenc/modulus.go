package fixenc

import (
	"slices"

	"windbreak/api"
	"windbreak/modint"
	"windbreak/nat"
)

// leastModulus is the least one whose half is not 0.
const leastModulus = 3

// modulus stands for the whole numbers about 0: those from 0 to its half are told as they are, those below 0 by what they are short of n.
type modulus struct {
	n, half api.Nat
}

func isModulus(n api.Nat) bool {
	return nat.Right(n) && len(n) <= api.MaxMod && nat.Cmp(n, nat.Of(leastModulus)) >= 0
}

// modulusOf takes an n that isModulus has looked at, so there are no errors.
func modulusOf(n api.Nat) modulus {
	below, _ := nat.Sub(n, nat.Of(1))
	half, _ := nat.Shr(below, 1)
	return modulus{n, half}
}

// encode refuses what is beyond the half, as another whole number stands there.
func (m modulus) encode(x api.Int) (api.Nat, api.Errno) {
	if !modint.Right(x) {
		return nil, api.ErrArg
	}
	if nat.Cmp(x.Mag, m.half) > 0 {
		return nil, api.ErrRoom
	}
	if x.Neg {
		return nat.Sub(m.n, x.Mag)
	}
	return slices.Clone(x.Mag), api.OK
}

func (m modulus) decode(v api.Nat) (api.Int, api.Errno) {
	if !nat.Right(v) || nat.Cmp(v, m.n) >= 0 {
		return api.Int{}, api.ErrPlain
	}
	if nat.Cmp(v, m.half) <= 0 {
		return modint.From(false, v), api.OK
	}
	size, _ := nat.Sub(m.n, v) // v is below n, so there is no error
	return modint.From(true, size), api.OK
}
