package paillier

import (
	"math/rand/v2"
	"slices"
	"testing"

	"windbreak/api"
)

// squareOf is n times n by another reckoning.
func squareOf(n api.Nat) api.Nat { return limbs(number(n).Mul(number(n), number(n))) }

// P6.2: Add, Plain and Scale at the edges of cipher texts and plain texts, of each length of keys.
func TestSums(t *testing.T) {
	r := rand.New(rand.NewPCG(1, 6))
	for _, k := range keys() {
		n := of(k)
		all := squareOf(n)
		for _, c := range []api.Nat{{1}, {2}, more(n, 1), more(all, -1), drawnBelow(r, all)} {
			for _, d := range []api.Nat{{1}, more(all, -1), drawnBelow(r, all)} {
				named("Add").check(t, n, c, d)
				named("Add").check(t, n, d, c)
			}
			for _, m := range []api.Nat{nil, {1}, {2}, more(n, -1), n, more(n, 1), all} {
				named("Plain").check(t, n, c, m)
				named("Scale").check(t, n, c, m)
			}
		}
	}
}

// P6.2: no times is 1, once is the same; 0 more is the same; n times, and n more, are none.
func TestNeutral(t *testing.T) {
	for _, n := range bases() {
		for _, c := range right(n, aCipher, some(n)) {
			for _, none := range []api.Nat{nil, {}} {
				if x, err := Scale(n, c, none); err != api.OK || !slices.Equal(x, api.Nat{1}) {
					t.Error("0 times", c, "of", n, x, err)
				}
				if x, err := Plain(n, c, none); err != api.OK || !slices.Equal(x, c) {
					t.Error(c, "of", n, "and 0:", x, err)
				}
			}
			if x, err := Scale(n, c, api.Nat{1}); err != api.OK || !slices.Equal(x, c) {
				t.Error("once", c, "of", n, x, err)
			}
			if x, err := Add(n, c, api.Nat{1}); err != api.OK || !slices.Equal(x, c) {
				t.Error(c, "of", n, "and what hides 0:", x, err)
			}
			if x, err := Scale(n, c, n); err != api.ErrPlain || x != nil {
				t.Error("n times", c, "of", n, x, err)
			}
			if x, err := Plain(n, c, n); err != api.ErrPlain || x != nil {
				t.Error(c, "of", n, "and n:", x, err)
			}
		}
	}
}

// P6.2: so many times is as often added.
func TestOftenAdded(t *testing.T) {
	for _, n := range bases() {
		for _, c := range right(n, aCipher, some(n))[:5] {
			sum := api.Nat{1}
			for k := range uint64(40) {
				x, err := Scale(n, c, limbs(number(api.Nat{k + 1}).Sub(number(api.Nat{k + 1}), one)))
				if err != api.OK || !slices.Equal(x, sum) {
					t.Error(k, "times", c, "of", n, x, err)
				}
				sum, err = Add(n, sum, c)
				if err != api.OK || !Valid(n, sum) {
					t.Error(c, "added to", sum, "of", n, err)
				}
			}
		}
	}
}

// P6.2: wrong cipher texts, at each place: ErrCipher.
func TestWrongCiphers(t *testing.T) {
	for _, k := range fewKeys() {
		n := of(k)
		all := squareOf(n)
		for _, c := range slices.Concat(divided(k), []api.Nat{nil, {}, n, times(n, 2), all, more(all, 1), times(all, 3)}, wrong()) {
			for name, calls := range map[string][][2]api.Nat{
				"Add":   {{c, {1}}, {{1}, c}, {c, c}},
				"Plain": {{c, nil}, {c, {1}}, {c, n}},
				"Scale": {{c, nil}, {c, {1}}, {c, n}},
				"Again": {{c, {1}}, {c, nil}, {c, n}},
			} {
				for _, x := range calls {
					if got, err := named(name).ask(n, x[0], x[1]); err != api.ErrCipher || got != nil {
						t.Error(name, n, x, got, err)
					}
				}
			}
			if got, err := Decrypt(k, c); err != api.ErrCipher || got != nil {
				t.Error("Decrypt", k, c, got, err)
			}
		}
	}
}
