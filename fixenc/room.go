package fixenc

import (
	"windbreak/api"
	"windbreak/nat"
)

// crowd is how many pairs are added at most, and of what size each g, and how great each h, is at most.
type crowd struct {
	rows, most, weight int64
}

func (m modulus) room(c crowd) (int, api.Errno) {
	if c.rows < 1 || c.most < 1 || c.weight < 1 {
		return 0, api.ErrArg
	}
	// The bits of a number are just the least shift for which it is below 2^shift.
	shift := nat.Bits(product(c.rows, c.weight))
	if !isShift(shift) || nat.Cmp(farthest(c, shift), m.half) > 0 {
		return 0, api.ErrRoom
	}
	return shift, api.OK
}

// farthest is the greatest size that a sum of the packs may have. It has at most 188 bits, so there are no errors.
func farthest(c crowd, shift int) api.Nat {
	moved, _ := nat.Shl(product(c.rows, c.most), shift)
	sum, _ := nat.Add(moved, nat.Of(uint64(step(shift)-1)))
	return sum
}

// product is that of two numbers above 0, which have at most 63 bits each, so there is no error.
func product(a, b int64) api.Nat {
	p, _ := nat.Mul(nat.Of(uint64(a)), nat.Of(uint64(b)))
	return p
}
