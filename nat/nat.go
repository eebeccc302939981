// Package nat is layer 1: natural numbers of up to 64 limbs (doc/01-nat.md).
package nat

import (
	"cmp"

	"windbreak/api"
)

// limbBits is how many bits a limb has, mostBits how many the greatest number has.
const (
	limbBits = 64
	mostBits = limbBits * api.MaxLimbs
)

// Right tells whether limbs are a number's.
func Right(a api.Nat) bool {
	n := len(a)
	return n <= api.MaxLimbs && (n == 0 || a[n-1] != 0)
}

// Of is a small number.
func Of(n uint64) api.Nat {
	if n == 0 {
		return nil
	}
	return api.Nat{n}
}

// Small is a number as a small one; false: it is none.
func Small(a api.Nat) (uint64, bool) {
	if !Right(a) || len(a) > 1 {
		return 0, false
	}
	return limb(a, 0), true
}

// Cmp is -1, 0 or 1, as a is below b, b itself, or above it.
func Cmp(a, b api.Nat) int {
	if !Right(a) || !Right(b) {
		return 0
	}
	// No limb behind is 0, so the longer one is the greater.
	if len(a) != len(b) {
		return cmp.Compare(len(a), len(b))
	}
	for i := range len(a) {
		k := len(a) - 1 - i
		if a[k] != b[k] {
			return cmp.Compare(a[k], b[k])
		}
	}
	return 0
}

// limb takes the places outside of a number as 0, so that numbers of unlike length, and moved ones, are gone through alike.
func limb(a api.Nat, i int) uint64 {
	if i < 0 || i >= len(a) {
		return 0
	}
	return a[i]
}

// trimmed leaves out the limbs 0 behind, which a number may not have.
func trimmed(a api.Nat) api.Nat {
	n := len(a)
	for n > 0 && a[n-1] == 0 {
		n--
	}
	if n == 0 {
		return nil
	}
	return a[:n]
}

// fitted is what a call answers of limbs that may be too many.
func fitted(a api.Nat) (api.Nat, api.Errno) {
	a = trimmed(a)
	if len(a) > api.MaxLimbs {
		return nil, api.ErrNatLong
	}
	return a, api.OK
}
