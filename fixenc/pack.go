package fixenc

import (
	"windbreak/api"
	"windbreak/modint"
)

// mostShift is the greatest one of which 2^shift is an int64.
const mostShift = 62

// pair is two whole numbers; of one that was packed h is not below 0.
type pair struct {
	g, h int64
}

// loose is a pair that is to be packed; packed is one that was.
type loose struct {
	shift int
	pair  pair
}

type packed struct {
	shift int
	v     api.Nat
}

func isShift(shift int) bool {
	return shift >= 1 && shift <= mostShift
}

// step is how far apart the places of two neighbours of g are, which is the room that h has. It takes a shift that isShift has looked at.
func step(shift int) int64 {
	return 1 << shift
}

func (m modulus) pack(l loose) (api.Nat, api.Errno) {
	if !isShift(l.shift) {
		return nil, api.ErrArg
	}
	if l.pair.h < 0 || l.pair.h >= step(l.shift) {
		return nil, api.ErrRoom
	}
	return modulus.encode(m, joined(l))
}

func (m modulus) unpack(p packed) (pair, api.Errno) {
	if !isShift(p.shift) {
		return pair{}, api.ErrArg
	}
	x, err := modulus.decode(m, p.v)
	if err != api.OK {
		return pair{}, err
	}
	return parted(x, p.shift)
}

// joined is a pair as one whole number, which has at most 126 bits, so there are no errors.
func joined(l loose) api.Int {
	moved, _ := modint.Mul(modint.Of(l.pair.g), modint.Of(step(l.shift)))
	x, _ := modint.Add(moved, modint.Of(l.pair.h))
	return x
}

// parted is the pair of a whole number. The quotient is rounded down, so that h is not below 0 where g is.
func parted(x api.Int, shift int) (pair, api.Errno) {
	q, rest, _ := modint.Floor(x, modint.Of(step(shift))) // the step is above 0, so there is no error
	g, small := modint.Small(q)
	if !small {
		return pair{}, api.ErrRoom
	}
	h, _ := modint.Small(rest) // it is below the step, which is small
	return pair{g, h}, api.OK
}
