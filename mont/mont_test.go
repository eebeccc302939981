package mont

import (
	"math/big"
	"testing"

	"windbreak/api"
	"windbreak/nat"
)

// P2.1: which moduli have a ring.
func TestNew(t *testing.T) {
	for _, n := range moduli() {
		ring(t, n)
	}
	none := []api.Nat{
		nil, {}, {1}, {2}, {4}, {16}, {top - 1}, {1 << 63}, {0, 1}, {2, 1}, {top - 1, top},
		append(filled(7, 0), 1), append(api.Nat{2}, filled(7, 1)...),
		filled(9, 1), filled(9, top), append(api.Nat{1}, append(filled(7, 0), 1)...), filled(64, 1),
		{3, 0}, append(filled(8, 1), 0),
	}
	for _, n := range append(none, wrong()...) {
		if r, err := New(n); r != nil || err != api.ErrArg {
			t.Errorf("modulus %v: a ring %t, error %d; asked ErrArg", n, r != nil, err)
		}
	}
}

// P2.2: In is the rest of a times R, Out the number of which that is the rest.
func TestInAndOut(t *testing.T) {
	for _, n := range moduli() {
		r, v, over := ring(t, n), number(n), back(n)
		for _, a := range below(n) {
			x, err := r.In(a)
			check(t, x, err, rest(new(big.Int).Mul(number(a), radix(n)), v), "In", a, n)
			y, err := r.Out(a)
			check(t, y, err, rest(new(big.Int).Mul(number(a), over), v), "Out", a, n)
		}
	}
}

// P2.2: Mul is Out of the rest of the product.
func TestMul(t *testing.T) {
	for _, n := range moduli() {
		r, v, over := ring(t, n), number(n), back(n)
		for _, x := range below(n) {
			for _, y := range below(n) {
				p := new(big.Int).Mul(number(x), number(y))
				got, err := r.Mul(x, y)
				check(t, got, err, rest(p.Mul(p, over), v), "Mul", x, y, n)
			}
		}
	}
}

// powers are exponents: the edges, each digit of four bits at each place of a limb's, and all lengths.
func powers() []api.Nat {
	l := []api.Nat{nil, {}, {2}, {3}, {15}, {16}, {17}, {0xfedcba9876543210}, {top}, {0, 1}, {1, 1}, filled(8, 0x123456789abcdef0)}
	for place := range 16 {
		l = append(l, api.Nat{1 << (4 * place)}, api.Nat{uint64(15-place%15) << (4 * place)})
	}
	for k := range api.MaxMod {
		l = append(l, filled(k+1, top), append(filled(k, 0), 1), append(filled(k, 0), 1<<63), append(filled(k, 0), 1<<60))
	}
	return l
}

// P2.2: Exp is the rest of a power, to the power of 0 it is 1.
func TestExp(t *testing.T) {
	for i, n := range moduli() {
		r, v := ring(t, n), number(n)
		for k, a := range below(n) {
			for m, e := range powers() {
				if len(e) > 1 && (i+k+m)%7 > 0 {
					continue // long powers take long: each meets some of the moduli and numbers
				}
				got, err := r.Exp(a, e)
				check(t, got, err, limbs(new(big.Int).Exp(number(a), number(e), v)), "Exp", a, e, n)
			}
		}
	}
}

// P2.2: every number of every small ring.
func TestSmallRings(t *testing.T) {
	for n := uint64(3); n < 72; n += 2 {
		r := ring(t, api.Nat{n})
		radix := -n % n // 2^64 less n
		for a := range n {
			x, err := r.In(nat.Of(a))
			check(t, x, err, nat.Of(a*radix%n), "In", nat.Of(a), nat.Of(n))
			for b := range n {
				p, err := r.Mul(nat.Of(a), nat.Of(b))
				if s, ok := nat.Small(p); err != api.OK || !ok || s >= n || s*radix%n != a*b%n {
					t.Error("Mul:", a, b, n, p, err)
				}
			}
			power := uint64(1)
			for e := range uint64(70) {
				p, err := r.Exp(nat.Of(a), nat.Of(e))
				check(t, p, err, nat.Of(power), "Exp", nat.Of(a), nat.Of(e), nat.Of(n))
				power = power * a % n
			}
		}
	}
}

// P2.2: arguments that may not be, or are not below n.
func TestWrongNumbers(t *testing.T) {
	for _, n := range moduli() {
		r, good := ring(t, n), less(n, 1)
		for _, a := range append(notBelow(n), wrong()...) {
			x, err := r.In(a)
			refused(t, x, err, "In", a, n)
			x, err = r.Out(a)
			refused(t, x, err, "Out", a, n)
			x, err = r.Mul(a, good)
			refused(t, x, err, "Mul", a, good, n)
			x, err = r.Mul(good, a)
			refused(t, x, err, "Mul", good, a, n)
			x, err = r.Exp(a, api.Nat{2})
			refused(t, x, err, "Exp", a, n)
			x, err = r.Exp(a, nil)
			refused(t, x, err, "Exp to the power of 0", a, n)
		}
	}
}

// P2.2: powers that may not be, or have more than 8 limbs; those not below n are right.
func TestWrongPowers(t *testing.T) {
	for _, n := range moduli() {
		r := ring(t, n)
		for _, e := range append(wrong(), filled(9, 1), filled(9, top), append(filled(8, 0), 1), filled(64, 1)) {
			for _, a := range []api.Nat{nil, {1}, less(n, 1)} {
				x, err := r.Exp(a, e)
				refused(t, x, err, "Exp", a, e, n)
			}
		}
		x, err := r.Exp(api.Nat{1}, filled(8, top))
		check(t, x, err, api.Nat{1}, "Exp", filled(8, top), n)
	}
}

// The document's examples.
func TestExamples(t *testing.T) {
	r := ring(t, api.Nat{15})
	x, err := r.In(api.Nat{1})
	check(t, x, err, api.Nat{1}, "In(1)")
	x, err = r.Mul(api.Nat{2}, api.Nat{3})
	check(t, x, err, api.Nat{6}, "Mul(2, 3)")
	x, err = r.Exp(api.Nat{2}, api.Nat{10})
	check(t, x, err, api.Nat{4}, "Exp(2, 10)")
	x, err = r.Exp(api.Nat{7}, nil)
	check(t, x, err, api.Nat{1}, "Exp(7, 0)")
	x, err = r.In(api.Nat{15})
	refused(t, x, err, "In(15)")
}
