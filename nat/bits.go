package nat

import (
	"math/bits"

	"windbreak/api"
)

// Shl is a number times 2^n.
func Shl(a api.Nat, n int) (api.Nat, api.Errno) {
	if !Right(a) || n < 0 {
		return nil, api.ErrArg
	}
	if len(a) == 0 {
		return nil, api.OK
	}
	// Asked this way round, no n is too great for a sum.
	if n > mostBits-Bits(a) {
		return nil, api.ErrNatLong
	}
	return trimmed(movedUp(a, n, len(a)+n/limbBits+1)), api.OK
}

// Shr is a number by 2^n, without the rest.
func Shr(a api.Nat, n int) (api.Nat, api.Errno) {
	if !Right(a) || n < 0 {
		return nil, api.ErrArg
	}
	if n >= Bits(a) {
		return nil, api.OK
	}
	return movedDown(a, n), api.OK
}

// Bits is how many bits a number has.
func Bits(a api.Nat) int {
	if !Right(a) || len(a) == 0 {
		return 0
	}
	last := len(a) - 1
	return last*limbBits + bits.Len64(a[last])
}

// Bit is one of a number's bits.
func Bit(a api.Nat, i int) bool {
	if i < 0 || i >= Bits(a) {
		return false
	}
	return a[i/limbBits]>>(i%limbBits)&1 == 1
}

// movedUp is the lowest limbs of a times 2^n, so many as are asked for.
func movedUp(a api.Nat, n, limbs int) api.Nat {
	whole, part := n/limbBits, n%limbBits
	s := make(api.Nat, limbs)
	for i := range limbs {
		// Of a part 0, what comes from the limb below is moved out whole: 0.
		s[i] = limb(a, i-whole)<<part | limb(a, i-whole-1)>>(limbBits-part)
	}
	return s
}

// movedDown is a by 2^n without the rest; n is below its limbs' bits.
func movedDown(a api.Nat, n int) api.Nat {
	whole, part := n/limbBits, n%limbBits
	s := make(api.Nat, len(a)-whole)
	for i := range len(s) {
		s[i] = limb(a, i+whole)>>part | limb(a, i+whole+1)<<(limbBits-part)
	}
	return trimmed(s)
}
