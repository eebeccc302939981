package nat

import (
	"math/bits"

	"windbreak/api"
)

// manyLimbs is from how many limbs of the shorter number on a product is made of three lesser ones. (Below 4, the halves' sums would be no shorter than what they are halves of.)
const manyLimbs = 12

// Mul is the product of two numbers.
func Mul(a, b api.Nat) (api.Nat, api.Errno) {
	if !Right(a) || !Right(b) {
		return nil, api.ErrArg
	}
	if len(a) == 0 || len(b) == 0 {
		return nil, api.OK
	}
	// A product has as many limbs as both numbers, or one less.
	if len(a)+len(b)-1 > api.MaxLimbs {
		return nil, api.ErrNatLong
	}
	return fitted(product(a, b))
}

// product is Karatsuba's: of halves, low and high, the middle products together are (low + high) times (low + high) less the two others. Its limbs are as many as both numbers have.
func product(a, b api.Nat) api.Nat {
	var times func(x, y api.Nat) api.Nat
	times = func(x, y api.Nat) api.Nat {
		if min(len(x), len(y)) < manyLimbs {
			return longhand(x, y)
		}
		half := (max(len(x), len(y)) + 1) / 2
		xLow, xHigh := parted(x, half)
		yLow, yHigh := parted(y, half)
		low := times(xLow, yLow)
		high := times(xHigh, yHigh)
		middle := times(plus(xLow, xHigh), plus(yLow, yHigh))
		takeFrom(middle, low)
		takeFrom(middle, high)
		p := make(api.Nat, len(x)+len(y))
		copy(p, low)
		addTo(p[half:], middle)
		addTo(p[2*half:], high)
		return p
	}
	return times(a, b)
}

// parted is a number's limbs below a place, and those from it on; a short number has none of these.
func parted(a api.Nat, at int) (api.Nat, api.Nat) {
	at = min(at, len(a))
	return a[:at], a[at:]
}

// longhand is a product limb by limb, which is the quicker one where a number is short.
func longhand(x, y api.Nat) api.Nat {
	p := make(api.Nat, len(x)+len(y))
	for i := range len(x) {
		p[i+len(y)] = addTimes(p[i:], y, x[i])
	}
	return p
}

// addTimes adds y times m to as many limbs of p, and tells what is carried out of these.
func addTimes(p, y api.Nat, m uint64) uint64 {
	var carry uint64
	for i := range len(y) {
		high, low := bits.Mul64(y[i], m)
		low, over := bits.Add64(low, p[i], 0)
		high += over
		p[i], over = bits.Add64(low, carry, 0)
		carry = high + over
	}
	return carry
}

// timesPlus makes a to a times m and n, in its place, which must have room for it.
func timesPlus(a api.Nat, m, n uint64) {
	carry := n
	for i := range len(a) {
		high, low := bits.Mul64(a[i], m)
		sum, over := bits.Add64(low, carry, 0)
		a[i], carry = sum, high+over
	}
}
