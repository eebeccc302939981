package nat

import (
	"math/bits"
	"slices"

	"windbreak/api"
)

// Div is a by b: the quotient, and what is left.
func Div(a, b api.Nat) (api.Nat, api.Nat, api.Errno) {
	if !Right(a) || !Right(b) {
		return nil, nil, api.ErrArg
	}
	if len(b) == 0 {
		return nil, nil, api.ErrNatZero
	}
	if Cmp(a, b) < 0 {
		return nil, slices.Clone(a), api.OK
	}
	if len(b) == 1 {
		q := slices.Clone(a)
		rest := divideBy(q, b[0])
		return trimmed(q), Of(rest), api.OK
	}
	q, rest := longDivision(a, b)
	return q, rest, api.OK
}

// divideBy makes a to its quotient by d, in its place, and tells what is left.
func divideBy(a api.Nat, d uint64) uint64 {
	var rest uint64
	for i := range len(a) {
		k := len(a) - 1 - i
		a[k], rest = bits.Div64(rest, a[k], d)
	}
	return rest
}

// longDivision is of a number by one of two limbs or more that is not above it. Both are moved up till the divisor's highest bit is set: only then is a limb that is guessed of the highest limbs at most 2 too great (Knuth, algorithm D).
func longDivision(a, b api.Nat) (api.Nat, api.Nat) {
	shift := bits.LeadingZeros64(b[len(b)-1])
	divisor := movedUp(b, shift, len(b))
	rest := movedUp(a, shift, len(a)+1)
	q := make(api.Nat, len(a)-len(b)+1)
	for i := range len(q) {
		k := len(q) - 1 - i
		q[k] = takeOut(rest[k:k+len(b)+1], divisor)
	}
	return trimmed(q), movedDown(rest, shift)
}

// takeOut takes the divisor out of w as often as it goes, and tells how often. w has one limb more than the divisor, and is below 2^64 times it.
func takeOut(w, divisor api.Nat) uint64 {
	n := len(divisor)
	guess := ^uint64(0)
	if w[n] < divisor[n-1] {
		guess, _ = bits.Div64(w[n], w[n-1], divisor[n-1])
	}
	debt := takeTimes(w, divisor, guess)
	for debt > 0 {
		guess--
		debt -= addTo(w, divisor)
	}
	return guess
}

// takeTimes subtracts y times m from w, which has one limb more than y, and tells what it lacks for that.
func takeTimes(w, y api.Nat, m uint64) uint64 {
	var carry, borrow uint64
	for i := range len(y) {
		high, low := bits.Mul64(y[i], m)
		low, over := bits.Add64(low, carry, 0)
		w[i], borrow = bits.Sub64(w[i], low, 0)
		carry = high + over + borrow
	}
	w[len(y)], borrow = bits.Sub64(w[len(y)], carry, 0)
	return borrow
}
