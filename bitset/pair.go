package bitset

import "windbreak/api"

// And is what is in both sets, Or what is in one at least, Minus what is in a and not in b.
func And(a, b api.Bits) (api.Bits, api.Errno) {
	return together(a, b, func(v, w uint64) uint64 { return v & w })
}

func Or(a, b api.Bits) (api.Bits, api.Errno) {
	return together(a, b, func(v, w uint64) uint64 { return v | w })
}

func Minus(a, b api.Bits) (api.Bits, api.Errno) {
	return together(a, b, func(v, w uint64) uint64 { return v &^ w })
}

// together puts two sets together, word by word. Of two bits that are not set, word must set none, else the answer may not be.
func together(a, b api.Bits, word func(v, w uint64) uint64) (api.Bits, api.Errno) {
	if !Right(a) || !Right(b) || a.N != b.N {
		return api.Bits{}, api.ErrArg
	}
	s := empty(a.N)
	for i := range s.W {
		s.W[i] = word(a.W[i], b.W[i])
	}
	return s, api.OK
}
