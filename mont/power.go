package mont

import (
	"windbreak/api"
	"windbreak/nat"
)

// A power is made of digits of four bits, of which a limb has sixteen.
const (
	digitBits   = 4
	digits      = 1 << digitBits
	limbsDigits = limbBits / digitBits
)

// raised is x to the power of e by a product of which one is the neutral number.
func raised(one, x, e api.Nat, times func(x, y api.Nat) api.Nat) api.Nat {
	powers := firstPowers(one, x, times)
	p := one
	count := (nat.Bits(e) + digitBits - 1) / digitBits
	for i := range count {
		for range digitBits {
			p = times(p, p)
		}
		p = times(p, powers[digit(e, count-1-i)])
	}
	return p
}

// firstPowers are those to each digit, so that a digit takes one product alone.
func firstPowers(one, x api.Nat, times func(x, y api.Nat) api.Nat) [digits]api.Nat {
	var powers [digits]api.Nat
	powers[0] = one
	for i := range digits - 1 {
		powers[i+1] = times(powers[i], x)
	}
	return powers
}

// digit is the one at a place, of which 0 is the lowest.
func digit(e api.Nat, place int) uint64 {
	return e[place/limbsDigits] >> (place % limbsDigits * digitBits) & (digits - 1)
}
