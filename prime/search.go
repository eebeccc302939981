package prime

import (
	"windbreak/api"
	"windbreak/nat"
	"windbreak/tape"
)

// mostTries is how many tries a search may have.
const mostTries = 10000

// Search draws a prime of so many bits.
func Search(t *tape.Tape, bits, tries int) (uint64, api.Errno) {
	if t == nil || bits < api.MinPrime || bits > api.MaxPrime || tries < 1 || tries > mostTries {
		return 0, api.ErrArg
	}
	for range tries {
		x, err := drawn(t, bits)
		if err != api.OK {
			return 0, err
		}
		if least(x) == x {
			return x, api.OK
		}
	}
	return 0, api.ErrPrimeNone
}

// Pair draws the two primes of a key.
func Pair(t *tape.Tape, bits, tries int) (api.Key, api.Errno) {
	p, err := Search(t, bits, tries)
	if err != api.OK {
		return api.Key{}, err
	}
	q, err := Search(t, bits, tries)
	if err != api.OK {
		return api.Key{}, err
	}
	k := api.Key{P: p, Q: q}
	if err := Check(k); err != api.OK {
		return api.Key{}, err
	}
	return k, api.OK
}

// drawn is a try's number: the tape's bits, but for the highest and the lowest one, which are set so that it has just so many and is odd.
func drawn(t *tape.Tape, bits int) (uint64, api.Errno) {
	b, err := t.Take((bits + 7) / 8)
	if err != api.OK {
		return 0, err
	}
	n, _ := nat.Read(b) // at most 5 bytes, so there is no error, and it is small
	x, _ := nat.Small(n)
	highest := uint64(1) << (bits - 1)
	return x&(highest-1) | highest | 1, api.OK
}
