package mont

import (
	"math/big"
	"math/rand/v2"
	"slices"
	"testing"

	"windbreak/api"
	"windbreak/nat"
)

const top = ^uint64(0)

// number is limbs as a number of another reckoning than the package's own; limbs are back again.
func number(a api.Nat) *big.Int { return new(big.Int).SetBytes(nat.Bytes(a)) }

func limbs(v *big.Int) api.Nat {
	a, _ := nat.Read(v.Bytes())
	return a
}

// rest is that of a number by a modulus.
func rest(v, n *big.Int) api.Nat { return limbs(new(big.Int).Mod(v, n)) }

// radix is R of a modulus, back its inverse by the modulus.
func radix(n api.Nat) *big.Int { return new(big.Int).Lsh(big.NewInt(1), uint(64*len(n))) }

func back(n api.Nat) *big.Int { return new(big.Int).ModInverse(radix(n), number(n)) }

// filled is so many limbs, each the same.
func filled(count int, limb uint64) api.Nat { return slices.Repeat(api.Nat{limb}, count) }

// drawn is so many limbs, of which many are 0 or the greatest, where carries go far.
func drawn(r *rand.Rand, count int) api.Nat {
	a := make(api.Nat, count)
	for i := range a {
		a[i] = []uint64{0, top, r.Uint64(), r.Uint64()}[r.IntN(4)]
	}
	if count > 0 && a[count-1] == 0 {
		a[count-1] = 1 + r.Uint64N(3)
	}
	return a
}

// moduli are those of the edges, and others of each length.
func moduli() []api.Nat {
	r := rand.New(rand.NewPCG(2, 2))
	l := []api.Nat{
		{3}, {5}, {7}, {9}, {15}, {255}, {1<<32 + 1}, {1<<63 - 1}, {1<<63 + 1}, {top - 2}, {top},
		{1, 1}, {3, 1}, {top, 1}, {1, 1 << 63}, {1, top}, {top, 5, 9}, {1, 0, 0, 1}, {top, 0, 0, 0, 1},
	}
	for k := 1; k <= api.MaxMod; k++ {
		one := append(filled(k-1, 0), 1)
		one[0] |= 3
		half := append(filled(k-1, 0), 1<<63)
		half[0] |= 1
		l = append(l, filled(k, top), one, half)
		for range 5 {
			n := drawn(r, k)
			n[0] |= 3
			l = append(l, n)
		}
	}
	return l
}

// below are numbers below a modulus: the edges, and others.
func below(n api.Nat) []api.Nat {
	r := rand.New(rand.NewPCG(3, n[0]))
	v := number(n)
	l := []api.Nat{nil, {}, {1}, {2}, less(n, 1), less(n, 2), limbs(new(big.Int).Rsh(v, 1)), rest(radix(n), v)}
	for k := range len(n) {
		l = append(l, rest(number(filled(k+1, top)), v), rest(number(drawn(r, k+1)), v))
	}
	return l
}

// less is a number less a small one.
func less(a api.Nat, by uint64) api.Nat {
	d, _ := nat.Sub(a, nat.Of(by))
	return d
}

// notBelow are numbers that are the modulus, or above it.
func notBelow(n api.Nat) []api.Nat {
	more, _ := nat.Add(n, nat.Of(1))
	twice, _ := nat.Shl(n, 1)
	longer, _ := nat.Shl(nat.Of(1), 64*len(n))
	return []api.Nat{n, more, twice, longer, filled(len(n)+1, 1), filled(9, 1), filled(64, top)}
}

// wrong are limbs that are no number's.
func wrong() []api.Nat {
	return []api.Nat{{0}, {1, 0}, {0, 0}, {top, top, 0}, append(filled(7, 1), 0), filled(65, 1), filled(65, 0), filled(1000, 3)}
}

// ring is the one of a modulus that it must have.
func ring(t testing.TB, n api.Nat) *Ring {
	t.Helper()
	r, err := New(n)
	if err != api.OK || r == nil {
		t.Fatalf("modulus %v: error %d", n, err)
	}
	return r
}

// check asks of an answer that it is a number without an error, and which one.
func check(t *testing.T, got api.Nat, err api.Errno, want api.Nat, what string, of ...api.Nat) {
	t.Helper()
	if err != api.OK || !slices.Equal(got, want) {
		t.Errorf("%s of %v: %v, error %d; asked %v", what, of, got, err, want)
	}
}

// refused asks of an answer that it is ErrArg and nothing beside.
func refused(t *testing.T, got api.Nat, err api.Errno, what string, of ...api.Nat) {
	t.Helper()
	if err != api.ErrArg || got != nil {
		t.Errorf("%s of %v: %v, error %d; asked ErrArg", what, of, got, err)
	}
}
