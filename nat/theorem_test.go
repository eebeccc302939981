package nat

import (
	"math/rand/v2"
	"testing"

	"windbreak/api"
)

// must takes an answer of numbers of which none is too long.
func must(t *testing.T) func(a api.Nat, err api.Errno) api.Nat {
	return func(a api.Nat, err api.Errno) api.Nat {
		t.Helper()
		if err != api.OK {
			t.Fatal("error", err)
		}
		return a
	}
}

// threes are numbers of which the product of all has at most 64 limbs.
func threes() [][3]api.Nat {
	r := rand.New(rand.NewPCG(7, 7))
	l := [][3]api.Nat{
		{nil, nil, nil}, {nil, {1}, {1}}, {{1}, nil, {top}}, {{top}, {top}, {top}},
		{filled(21, top), filled(21, top), filled(21, top)},
		{filled(31, top), filled(31, top), {top}},
		{filled(40, top), filled(12, top), filled(11, top)},
	}
	for range 2000 {
		l = append(l, [3]api.Nat{drawn(r, r.IntN(22)), drawn(r, r.IntN(22)), drawn(r, r.IntN(21))})
	}
	return l
}

// P1.5: sums and products hang neither on the order nor on brackets; a product with a sum is the sum of the products.
func TestHalfRing(t *testing.T) {
	n := must(t)
	for _, x := range threes() {
		a, b, c := x[0], x[1], x[2]
		ab, bc := n(Add(a, b)), n(Add(b, c))
		if !same(ab, n(Add(b, a))) || !same(n(Add(ab, c)), n(Add(a, bc))) {
			t.Error("sums:", x)
		}
		pab, pbc := n(Mul(a, b)), n(Mul(b, c))
		if !same(pab, n(Mul(b, a))) || !same(n(Mul(pab, c)), n(Mul(a, pbc))) {
			t.Error("products:", x)
		}
		if !same(n(Mul(a, bc)), n(Add(pab, n(Mul(a, c))))) {
			t.Error("a product with a sum:", x)
		}
		if !same(n(Add(a, nil)), a) || !same(n(Mul(a, Of(1))), a) || len(n(Mul(a, nil))) != 0 {
			t.Error("0 and 1:", x)
		}
	}
}

// P1.5: what is subtracted and added, divided and multiplied, is what there was.
func TestThereAndBack(t *testing.T) {
	n := must(t)
	for _, a := range samples() {
		for _, b := range samples() {
			if Cmp(a, b) >= 0 && !same(n(Add(n(Sub(a, b)), b)), a) {
				t.Error("subtracted and added:", a, b)
			}
			if s, err := Add(a, b); err == api.OK && !same(n(Sub(s, b)), a) {
				t.Error("added and subtracted:", a, b)
			}
			if len(b) == 0 {
				continue
			}
			q, rest, err := Div(a, b)
			if err != api.OK || Cmp(rest, b) >= 0 || !same(n(Add(n(Mul(q, b)), rest)), a) {
				t.Error("divided and multiplied:", a, b)
			}
		}
	}
}

// P1.5, P2: bytes and texts are read as the number they were made of.
func TestWrittenAndRead(t *testing.T) {
	n := must(t)
	r := rand.New(rand.NewPCG(8, 8))
	l := samples()
	for range 2000 {
		l = append(l, drawn(r, r.IntN(api.MaxLimbs+1)))
	}
	for _, a := range l {
		if b := Bytes(a); !same(n(Read(b)), a) || len(b) > 0 && b[0] == 0 {
			t.Error("bytes:", a, b)
		}
		if s := Text(a); !same(n(Parse(s)), a) {
			t.Error("a text:", a, s)
		}
	}
}
