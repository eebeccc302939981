package nat

import (
	"math/big"
	"math/rand/v2"
	"slices"
	"testing"

	"windbreak/api"
)

const top = ^uint64(0)

// toBig is the number of limbs by another reckoning than the package's own.
func toBig(a api.Nat) *big.Int {
	v := new(big.Int)
	for i := len(a) - 1; i >= 0; i-- {
		v.Lsh(v, 64)
		v.Or(v, new(big.Int).SetUint64(a[i]))
	}
	return v
}

// fromBig is the limbs of a number, of any length.
func fromBig(v *big.Int) api.Nat {
	var a api.Nat
	mask := new(big.Int).SetUint64(top)
	for v = new(big.Int).Set(v); v.Sign() > 0; v.Rsh(v, 64) {
		a = append(a, new(big.Int).And(v, mask).Uint64())
	}
	return a
}

// power is 2 to the power of n.
func power(n int) api.Nat {
	a := make(api.Nat, n/64+1)
	a[n/64] = 1 << (n % 64)
	return a
}

// filled is a number of so many limbs, each the same.
func filled(limbs int, limb uint64) api.Nat {
	return slices.Repeat(api.Nat{limb}, limbs)
}

// same compares limbs; nil and empty are the same.
func same(a, b api.Nat) bool { return slices.Equal(a, b) }

// drawn is a number of so many limbs; many of these are 0 or the greatest, where carries go far.
func drawn(r *rand.Rand, limbs int) api.Nat {
	a := make(api.Nat, limbs)
	for i := range a {
		switch r.IntN(4) {
		case 0:
			a[i] = top
		case 1:
			a[i] = 0
		default:
			a[i] = r.Uint64()
		}
	}
	if limbs > 0 && a[limbs-1] == 0 {
		a[limbs-1] = 1 + r.Uint64N(3)
	}
	return a
}

// samples are the edges that the document names, and numbers of all lengths.
func samples() []api.Nat {
	r := rand.New(rand.NewPCG(1, 1))
	l := []api.Nat{
		nil, {}, {1}, {2}, {9}, {10}, {255}, {256}, {1 << 63}, {top},
		power(64), power(127), power(128), power(4032), power(4095),
		{top, top}, {0, top}, {top, 1}, filled(64, top), filled(63, top), filled(32, top), filled(33, 1),
		{10_000_000_000_000_000_000}, {10_000_000_000_000_000_000 - 1},
	}
	for n := range api.MaxLimbs + 1 {
		l = append(l, drawn(r, n))
	}
	return l
}

// wrong are limbs that are no number's.
func wrong() []api.Nat {
	return []api.Nat{{0}, {1, 0}, {0, 0}, {top, top, 0}, filled(65, 1), filled(65, 0), append(filled(63, 1), 0), filled(1000, top)}
}

// checkNat asks of an answer that it is a number, and which one.
func checkNat(t *testing.T, what string, got api.Nat, err api.Errno, want *big.Int) {
	t.Helper()
	if limbs := fromBig(want); len(limbs) > api.MaxLimbs {
		if err != api.ErrNatLong || got != nil {
			t.Errorf("%s: %d limbs, error %d; asked ErrNatLong", what, len(got), err)
		}
	} else if err != api.OK || !same(got, limbs) {
		t.Errorf("%s: %v, error %d; asked %v", what, got, err, limbs)
	}
}
