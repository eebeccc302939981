package bitset

import (
	"math/bits"

	"windbreak/api"
)

// List are a set's numbers, rising.
func List(s api.Bits) []int {
	if !Right(s) {
		return nil
	}
	var l []int
	for i, word := range s.W {
		for ; word != 0; word &= word - 1 { // without its lowest bit, which was told
			l = append(l, i*wordSize+bits.TrailingZeros64(word))
		}
	}
	return l
}

// Has tells whether a number is in a set; Count how many are.
func Has(s api.Bits, i int) bool {
	if !Right(s) || i < 0 || i >= s.N {
		return false
	}
	return s.W[i/wordSize]>>(i%wordSize)&1 == 1
}

func Count(s api.Bits) int {
	if !Right(s) {
		return 0
	}
	count := 0
	for _, word := range s.W {
		count += bits.OnesCount64(word)
	}
	return count
}
