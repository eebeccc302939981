package prime

import (
	"math/bits"

	"windbreak/api"
	"windbreak/modint"
	"windbreak/nat"
)

// Check tells whether a key's two numbers are such primes as it needs.
func Check(k api.Key) api.Errno {
	// What is soon told is asked first: each fault is the same error.
	if k.P == k.Q || bits.Len64(k.P) != bits.Len64(k.Q) || !ofKey(k.P) || !ofKey(k.Q) || !apart(k) {
		return api.ErrKey
	}
	return api.OK
}

// ofKey tells whether a number is a prime of as many bits as a key's may have.
func ofKey(p uint64) bool {
	length := bits.Len64(p)
	return length >= api.MinPrime && length <= api.MaxPrime && least(p) == p
}

// apart tells whether the primes' product, and that of both less 1, have no common divisor above 1. Primes of as many bits always are; it is asked all the same, as the promise names it.
func apart(k api.Key) bool {
	// Primes have one limb, so there are no errors.
	n, _ := nat.Mul(nat.Of(k.P), nat.Of(k.Q))
	f, _ := nat.Mul(nat.Of(k.P-1), nat.Of(k.Q-1))
	common, _ := modint.Gcd(n, f)
	return nat.Cmp(common, nat.Of(1)) == 0
}
