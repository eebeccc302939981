package mont

import (
	"math/bits"

	"windbreak/api"
	"windbreak/nat"
)

// inverse is the limb whose product with an odd one is 1 more than a multiple of 2^64.
func inverse(odd uint64) uint64 {
	// An odd number is its own inverse by 8; each step doubles how many low bits are right: 3, 6, 12, 24, 48, all.
	x := odd
	for range 5 {
		x *= 2 - odd*x
	}
	return x
}

// product is that of two numbers in the ring's form, in which it is itself.
func (r *Ring) product(x, y api.Nat) api.Nat {
	p, _ := nat.Mul(x, y) // of at most 16 limbs, so there is no error
	return r.reduced(p)
}

// reduced is the number below n of which R times it has p for its rest by n; p must be below n times R.
func (r *Ring) reduced(p api.Nat) api.Nat {
	k := len(r.n)
	s := make(api.Nat, 2*k+1)
	copy(s, p)
	// Each step adds that multiple of n which makes a limb 0; what is left is a multiple of R.
	for i := range k {
		addTimes(s[i:], r.n, s[i]*r.factor)
	}
	return r.brought(trimmed(s[k:]))
}

// brought is a number below twice n, brought below n.
func (r *Ring) brought(a api.Nat) api.Nat {
	if nat.Cmp(a, r.n) < 0 {
		return a
	}
	d, _ := nat.Sub(a, r.n) // a is not below n, so there is no error
	return d
}

// addTimes adds n times m to s in its place, which must have room for it.
func addTimes(s, n api.Nat, m uint64) {
	var carry uint64
	for i := range len(n) {
		high, low := bits.Mul64(n[i], m)
		low, over := bits.Add64(low, carry, 0)
		high += over
		s[i], over = bits.Add64(s[i], low, 0)
		carry = high + over
	}
	for i := len(n); carry != 0; i++ {
		s[i], carry = bits.Add64(s[i], carry, 0)
	}
}

// trimmed leaves out the limbs 0 behind, which a number may not have.
func trimmed(a api.Nat) api.Nat {
	n := len(a)
	for n > 0 && a[n-1] == 0 {
		n--
	}
	if n == 0 {
		return nil
	}
	return a[:n]
}
