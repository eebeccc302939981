package nat

import "windbreak/api"

// limbBytes is how many bytes a limb has.
const limbBytes = 8

// Bytes is a number's bytes, the highest first.
func Bytes(a api.Nat) []byte {
	b := make([]byte, (Bits(a)+7)/8)
	for i := range len(b) {
		b[len(b)-1-i] = byte(a[i/limbBytes] >> (i % limbBytes * 8))
	}
	return b
}

// Read is the number of bytes, the highest first.
func Read(b []byte) (api.Nat, api.Errno) {
	for len(b) > 0 && b[0] == 0 {
		b = b[1:]
	}
	// Ahead of any limb, so that no memory goes to what is refused.
	if len(b) > limbBytes*api.MaxLimbs {
		return nil, api.ErrNatLong
	}
	a := make(api.Nat, (len(b)+limbBytes-1)/limbBytes)
	for i := range len(b) {
		a[i/limbBytes] |= uint64(b[len(b)-1-i]) << (i % limbBytes * 8)
	}
	return trimmed(a), api.OK
}
