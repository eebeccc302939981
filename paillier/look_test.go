package paillier

import (
	"slices"
	"testing"

	"windbreak/api"
)

// P6.2: each call, at all pairs of the edges, right and wrong: what it answers, or the error that is named first.
func TestCalls(t *testing.T) {
	for i, n := range bases() {
		for _, c := range calls() {
			for k, a := range some(n) {
				for m, b := range some(n) {
					if c.kinds[0].fault(n, a) == api.OK && (i+k+m)%3 > 0 {
						continue // what is reckoned takes long: each meets some of the others
					}
					c.check(t, n, a, b)
				}
			}
		}
	}
}

// P6.2: multiples of a key's primes are neither cipher texts nor hiders, but plain texts like all others.
func TestDivided(t *testing.T) {
	for _, k := range fewKeys() {
		n := of(k)
		for _, a := range divided(k) {
			for _, c := range calls() {
				c.check(t, n, a, a)
				c.check(t, n, a, api.Nat{1})
				c.check(t, n, api.Nat{1}, a)
			}
		}
	}
}

// P6.2: of a number that may not be a public key each call is ErrArg, whatever else is handed in.
func TestWrongPublicKey(t *testing.T) {
	others := append(wrong(), nil, api.Nat{1}, api.Nat{5}, api.Nat{131}, filled(64, top))
	for _, n := range wrongBases() {
		for _, a := range append(slices.Clone(others), n) {
			for _, b := range append(slices.Clone(others), n) {
				for _, c := range calls() {
					if got, err := c.ask(n, a, b); err != api.ErrArg || got != nil {
						t.Errorf("%s(%v, %v, %v): %v, error %d", c.name, n, a, b, got, err)
					}
				}
			}
			x := tapeOf(t, bytesOf(3, 40)...)
			if got, err := Draw(n, a, x); err != api.ErrArg || got != nil {
				t.Errorf("Draw(%v, %v): %v, error %d", n, a, got, err)
			}
			left(t, "of a wrong public key", x, bytesOf(3, 40))
			if got, err := Draw(n, a, nil); err != api.ErrArg || got != nil {
				t.Errorf("Draw(%v, %v) of no tape: %v, error %d", n, a, got, err)
			}
		}
	}
}

// P6.2: where several arguments are wrong, a cipher text's error is ahead of a plain text's, and that ahead of a hider's.
func TestFirstWrong(t *testing.T) {
	n, c, m, r := api.Nat{17947}, api.Nat{131}, api.Nat{17947}, api.Nat{137}
	good := api.Nat{1}
	for _, x := range []struct {
		name string
		a, b api.Nat
		want api.Errno
	}{
		{"Encrypt", m, r, api.ErrPlain}, {"Encrypt", m, good, api.ErrPlain}, {"Encrypt", good, r, api.ErrArg}, {"Encrypt", good, good, api.OK},
		{"Add", c, c, api.ErrCipher}, {"Add", c, good, api.ErrCipher}, {"Add", good, c, api.ErrCipher}, {"Add", good, good, api.OK},
		{"Plain", c, m, api.ErrCipher}, {"Plain", c, good, api.ErrCipher}, {"Plain", good, m, api.ErrPlain}, {"Plain", good, good, api.OK},
		{"Scale", c, m, api.ErrCipher}, {"Scale", c, good, api.ErrCipher}, {"Scale", good, m, api.ErrPlain}, {"Scale", good, good, api.OK},
		{"Again", c, r, api.ErrCipher}, {"Again", c, good, api.ErrCipher}, {"Again", good, r, api.ErrArg}, {"Again", good, good, api.OK},
	} {
		if got, err := named(x.name).ask(n, x.a, x.b); err != x.want || (err == api.OK) != (got != nil) {
			t.Error(x, got, err)
		}
		if got, err := named(x.name).ask(api.Nat{17946}, x.a, x.b); err != api.ErrArg || got != nil {
			t.Error("by an even number:", x, got, err)
		}
	}
}
