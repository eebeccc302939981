package nat

import (
	"math/big"
	"math/rand/v2"
	"testing"

	"windbreak/api"
)

// P1.2: products, by another reckoning.
func TestMul(t *testing.T) {
	for _, a := range samples() {
		for _, b := range samples() {
			p, err := Mul(a, b)
			checkNat(t, "a product", p, err, new(big.Int).Mul(toBig(a), toBig(b)))
		}
	}
}

// P1.2: all pairs of lengths of which a product may be, so that halves are of each shape.
func TestMulLengths(t *testing.T) {
	r := rand.New(rand.NewPCG(2, 2))
	for n := range api.MaxLimbs + 1 {
		for m := range api.MaxLimbs + 2 - n {
			for _, pair := range [][2]api.Nat{
				{drawn(r, min(n, 64)), drawn(r, min(m, 64))},
				{filled(min(n, 64), top), filled(min(m, 64), top)},
				{filled(min(n, 64), 1), filled(min(m, 64), 1)},
			} {
				p, err := Mul(pair[0], pair[1])
				checkNat(t, "a product", p, err, new(big.Int).Mul(toBig(pair[0]), toBig(pair[1])))
			}
		}
	}
}

// A product of many limbs is the same one that is made limb by limb, beyond the lengths that are told, too.
func TestProductOfHalves(t *testing.T) {
	r := rand.New(rand.NewPCG(3, 3))
	for n := range 70 {
		for _, m := range []int{0, 1, manyLimbs - 1, manyLimbs, manyLimbs + 1, 2 * manyLimbs, n, n + 1, 70} {
			a, b := drawn(r, n), drawn(r, m)
			if got, want := product(a, b), longhand(a, b); !same(got, want) {
				t.Fatal(n, m, got, want)
			}
		}
	}
}

// P1.2: 64 limbs and one more, where both numbers have 65 together.
func TestMulEdges(t *testing.T) {
	if p, err := Mul(power(2048), power(2047)); err != api.OK || !same(p, power(4095)) {
		t.Error("2^4095:", err)
	}
	if p, err := Mul(power(2048), power(2048)); err != api.ErrNatLong || p != nil {
		t.Error("2^4096:", p, err)
	}
	if p, err := Mul(filled(64, top), api.Nat{1}); err != api.OK || !same(p, filled(64, top)) {
		t.Error("the greatest number times 1:", err)
	}
	if p, err := Mul(filled(64, top), api.Nat{2}); err != api.ErrNatLong || p != nil {
		t.Error("the greatest number times 2:", p, err)
	}
	if p, err := Mul(filled(64, top), nil); err != api.OK || len(p) != 0 {
		t.Error("the greatest number times 0:", p, err)
	}
	if p, err := Mul(nil, filled(64, top)); err != api.OK || len(p) != 0 {
		t.Error("0 times the greatest number:", p, err)
	}
	if p, err := Mul(filled(64, top), filled(64, top)); err != api.ErrNatLong || p != nil {
		t.Error("the greatest number, squared:", p, err)
	}
}

// ErrArg goes ahead of ErrNatLong, and of a product with 0.
func TestMulOfWrong(t *testing.T) {
	for _, w := range wrong() {
		for _, a := range []api.Nat{nil, {5}, {0}, filled(64, top)} {
			if p, err := Mul(w, a); err != api.ErrArg || p != nil {
				t.Error(w, a, p, err)
			}
			if p, err := Mul(a, w); err != api.ErrArg || p != nil {
				t.Error(a, w, p, err)
			}
		}
	}
}
