package nat

import (
	"math/bits"
	"slices"

	"windbreak/api"
)

// Add is the sum of two numbers.
func Add(a, b api.Nat) (api.Nat, api.Errno) {
	if !Right(a) || !Right(b) {
		return nil, api.ErrArg
	}
	return fitted(plus(a, b))
}

// Sub is the difference of two numbers, of which the first is not the lesser.
func Sub(a, b api.Nat) (api.Nat, api.Errno) {
	if !Right(a) || !Right(b) {
		return nil, api.ErrArg
	}
	if Cmp(a, b) < 0 {
		return nil, api.ErrNatLess
	}
	d := slices.Clone(a)
	takeFrom(d, b)
	return trimmed(d), api.OK
}

// plus is a sum in new limbs, one more than the longer number has, as the last one may carry.
func plus(a, b api.Nat) api.Nat {
	s := make(api.Nat, max(len(a), len(b))+1)
	copy(s, a)
	addTo(s, b)
	return s
}

// addTo adds b to s in its place, and tells what is carried out of it. Limbs of b that s has no place for must be 0.
func addTo(s, b api.Nat) uint64 {
	var carry uint64
	for i := range len(s) {
		s[i], carry = bits.Add64(s[i], limb(b, i), carry)
	}
	return carry
}

// takeFrom subtracts b from s in its place; b must not be above s.
func takeFrom(s, b api.Nat) {
	var borrow uint64
	for i := range len(s) {
		s[i], borrow = bits.Sub64(s[i], limb(b, i), borrow)
	}
}
