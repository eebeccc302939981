package loss

import (
	"windbreak/api"
	"windbreak/modint"
)

// Weight is a leaf's, of its rows' sums.
func Weight(c api.Config, s api.Sum) (int, api.Errno) {
	if !Right(c) || !isSum(s) {
		return 0, api.ErrArg
	}
	// No product is longer than a limb, and the one that is divided by is above 0: there are no errors.
	product := func(a, b int) api.Int {
		p, _ := modint.Mul(modint.Of(int64(a)), modint.Of(int64(b)))
		return p
	}
	weight, _, _ := modint.Floor(product(-s.G, c.Num), product(s.H+c.Lambda, c.Den))
	small, _ := modint.Small(weight) // no greater in size than G
	return int(small), api.OK
}

// isSum is whether sums may be.
func isSum(s api.Sum) bool {
	return isWithin(s.G, mostScore) && isFrom(s.H, 0, mostH)
}
