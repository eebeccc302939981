package modint

import (
	"math/big"
	"math/rand/v2"
	"slices"
	"testing"

	"windbreak/api"
	"windbreak/nat"
)

// P3.4: Floor's quotient times b and its rest is a; the rest is 0 or more, and below b.
func TestQuotientAndRest(t *testing.T) {
	r := rand.New(rand.NewPCG(7, 3))
	l := samples()
	for range 60 {
		l = append(l, From(r.IntN(2) == 0, drawn(r, r.IntN(65))))
	}
	for _, a := range l {
		for _, b := range l {
			if Cmp(b, Of(0)) <= 0 {
				continue
			}
			q, rest, err := Floor(a, b)
			if err != api.OK || Cmp(rest, Of(0)) < 0 || Cmp(rest, b) >= 0 {
				t.Fatal("a rest:", a, b, rest, err)
			}
			// By another reckoning, as q times b may have 65 limbs where a has 64.
			v := new(big.Int).Mul(whole(q), whole(b))
			if v.Add(v, whole(rest)).Cmp(whole(a)) != 0 {
				t.Error("put together:", a, b, q, rest)
			}
		}
	}
}

// P3.4: the inverse of the inverse is the rest of a by n.
func TestInverseOfInverse(t *testing.T) {
	ok := must(t)
	r := rand.New(rand.NewPCG(8, 3))
	count := 0
	for range 400 {
		a, n := drawn(r, r.IntN(65)), drawn(r, 1+r.IntN(64))
		if g := ok(Gcd(a, n)); nat.Cmp(n, nat.Of(2)) < 0 || nat.Cmp(g, nat.Of(1)) != 0 {
			continue
		}
		count++
		x := ok(Inverse(a, n))
		_, rest, _ := nat.Div(a, n)
		if y := ok(Inverse(x, n)); !slices.Equal(y, rest) {
			t.Error("inverse of the inverse:", text(a), text(n), text(y))
		}
	}
	if count < 100 {
		t.Error("few numbers have an inverse:", count)
	}
}

// P3.4: what Crt tells leaves just what it was asked for, and hangs not on which modulus is named first.
func TestLeftByBoth(t *testing.T) {
	ok := must(t)
	r := rand.New(rand.NewPCG(9, 3))
	count := 0
	for range 1000 {
		m, n := drawn(r, 1+r.IntN(8)), drawn(r, 1+r.IntN(8))
		if g := ok(Gcd(m, n)); nat.Cmp(m, nat.Of(2)) < 0 || nat.Cmp(n, nat.Of(2)) < 0 || nat.Cmp(g, nat.Of(1)) != 0 {
			continue
		}
		count++
		_, a, _ := nat.Div(drawn(r, 8), m)
		_, b, _ := nat.Div(drawn(r, 8), n)
		x := ok(Crt(a, m, b, n))
		_, byM, _ := nat.Div(x, m)
		_, byN, _ := nat.Div(x, n)
		if !slices.Equal(byM, a) || !slices.Equal(byN, b) || nat.Cmp(x, ok(nat.Mul(m, n))) >= 0 {
			t.Error("left:", text(a), text(m), text(b), text(n), text(x))
		}
		if y := ok(Crt(b, n, a, m)); !slices.Equal(y, x) {
			t.Error("the other way round:", text(x), text(y))
		}
	}
	if count < 100 {
		t.Error("few moduli have no common divisor:", count)
	}
}

// The document's examples.
func TestExamples(t *testing.T) {
	for _, c := range [][3]int64{{-7, -4, 1}, {7, 3, 1}} {
		q, rest, err := Floor(Of(c[0]), Of(2))
		if err != api.OK || !same(q, Of(c[1])) || !same(rest, Of(c[2])) {
			t.Error("Floor:", c, q, rest, err)
		}
	}
	x, err := Gcd(api.Nat{12}, api.Nat{18})
	checkNat(t, "Gcd(12, 18)", x, err, api.Nat{6})
	x, err = Inverse(api.Nat{3}, api.Nat{7})
	checkNat(t, "Inverse(3, 7)", x, err, api.Nat{5})
	x, err = Inverse(api.Nat{2}, api.Nat{4})
	refusedNat(t, "Inverse(2, 4)", x, err, api.ErrNoInverse)
	x, err = Crt(api.Nat{2}, api.Nat{3}, api.Nat{3}, api.Nat{5})
	checkNat(t, "Crt(2, 3, 3, 5)", x, err, api.Nat{8})
}
