package prime

import (
	"math/bits"

	"windbreak/api"
)

// Witness tells whether a proves, by Miller's and Rabin's test, that n is no prime.
func Witness(a, n uint64) (bool, api.Errno) {
	if n%2 == 0 || n < 3 || n >= bound {
		return false, api.ErrArg
	}
	twos := bits.TrailingZeros64(n - 1)
	x := powerBy(a, (n-1)>>twos, n)
	if x <= 1 {
		return false, api.OK
	}
	for range twos {
		if x == n-1 {
			return false, api.OK
		}
		x = productBy(x, x, n)
	}
	return true, api.OK
}

// powerBy is what a to the power of e leaves by n; e and n are above 0.
func powerBy(a, e, n uint64) uint64 {
	told, square := uint64(1), a
	for ; e > 0; e >>= 1 {
		if e&1 == 1 {
			told = productBy(told, square, n)
		}
		square = productBy(square, square, n)
	}
	return told
}

// productBy is what a times b leaves by n, which is not 0. The product may have more bits than a word.
func productBy(a, b, n uint64) uint64 {
	high, low := bits.Mul64(a, b)
	return bits.Rem64(high, low, n)
}
