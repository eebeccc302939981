package mont

import (
	"math/big"
	"math/rand/v2"
	"slices"
	"testing"

	"windbreak/api"
	"windbreak/nat"
)

// must takes an answer that has no error.
func must(t *testing.T) func(a api.Nat, err api.Errno) api.Nat {
	return func(a api.Nat, err api.Errno) api.Nat {
		t.Helper()
		if err != api.OK {
			t.Fatal("error", err)
		}
		return a
	}
}

// P2.3: Out of In of a is a, and In of Out; Out of Mul of In of two is the rest of their product.
func TestThereAndBack(t *testing.T) {
	ok := must(t)
	for _, n := range moduli() {
		r, v := ring(t, n), number(n)
		for _, a := range below(n) {
			if x := ok(r.Out(ok(r.In(a)))); !slices.Equal(x, a) {
				t.Error("in and out:", a, n, x)
			}
			if x := ok(r.In(ok(r.Out(a)))); !slices.Equal(x, a) {
				t.Error("out and in:", a, n, x)
			}
			for _, b := range below(n) {
				p := ok(r.Out(ok(r.Mul(ok(r.In(a)), ok(r.In(b))))))
				if !slices.Equal(p, rest(new(big.Int).Mul(number(a), number(b)), v)) {
					t.Error("product:", a, b, n, p)
				}
			}
		}
	}
}

// sums are pairs of powers whose sum has at most 8 limbs.
func sums() [][2]api.Nat {
	r := rand.New(rand.NewPCG(4, 4))
	l := [][2]api.Nat{
		{nil, nil}, {nil, {1}}, {{1}, {1}}, {{15}, {1}}, {{top}, {1}}, {{top}, {top}},
		{filled(7, top), {1}}, {filled(8, top-1), filled(8, 1)}, {filled(8, top), nil},
	}
	for range 8 {
		l = append(l, [2]api.Nat{drawn(r, r.IntN(8)), drawn(r, r.IntN(8))})
	}
	return l
}

// P2.3: a power to a sum is the product of the powers.
func TestPowerToSum(t *testing.T) {
	ok := must(t)
	for _, n := range moduli() {
		r := ring(t, n)
		for _, a := range below(n)[2:8] {
			for _, s := range sums() {
				whole := ok(r.Exp(a, ok(nat.Add(s[0], s[1]))))
				x, y := ok(r.In(ok(r.Exp(a, s[0])))), ok(r.In(ok(r.Exp(a, s[1]))))
				if p := ok(r.Out(ok(r.Mul(x, y)))); !slices.Equal(p, whole) {
					t.Error("power to a sum:", a, s, n, p, whole)
				}
			}
		}
	}
}
