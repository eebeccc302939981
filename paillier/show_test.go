package paillier

import (
	"math/rand/v2"
	"slices"
	"testing"

	"windbreak/api"
	"windbreak/nat"
)

// checkShown asks of Decrypt that it is the other reckoning's.
func checkShown(t *testing.T, k api.Key, c api.Nat) {
	t.Helper()
	if m, err := Decrypt(k, c); err != api.OK || !slices.Equal(m, shown(k, c)) {
		t.Errorf("Decrypt(%v, %v): %v, error %d; asked %v", k, c, m, err, shown(k, c))
	}
}

// P6.4: cipher texts at the edges and others, of each length of keys, in both orders of the primes.
func TestDecrypt(t *testing.T) {
	r := rand.New(rand.NewPCG(2, 6))
	for _, k := range keys() {
		n := of(k)
		all := squareOf(n)
		for _, c := range right(n, aCipher, []api.Nat{{1}, {2}, more(n, -1), more(n, 1), more(all, -1), more(all, -2), drawnBelow(r, all), drawnBelow(r, n)}) {
			checkShown(t, k, c)
			checkShown(t, api.Key{P: k.Q, Q: k.P}, c)
		}
	}
}

// P6.4: all cipher texts below a bound of the least key.
func TestSmallDecrypt(t *testing.T) {
	k := api.Key{P: 131, Q: 137}
	for c := range uint64(4000) {
		if c%131 > 0 && c%137 > 0 {
			checkShown(t, k, nat.Of(c))
		} else if m, err := Decrypt(k, nat.Of(c)); err != api.ErrCipher || m != nil {
			t.Error(c, m, err)
		}
	}
}

// P6.4: 1, n times n less 1, and a hider to the power of n hide 0; 1 and n hides 1.
func TestHidesNone(t *testing.T) {
	for _, k := range keys() {
		n := of(k)
		behind, _ := named("Encrypt").want(n, nil, api.Nat{2})
		for _, c := range []api.Nat{{1}, more(squareOf(n), -1), behind} {
			if m, err := Decrypt(k, c); err != api.OK || len(m) > 0 {
				t.Error(c, "of", k, m, err)
			}
		}
		if m, err := Decrypt(k, more(n, 1)); err != api.OK || !slices.Equal(m, api.Nat{1}) {
			t.Error("1 and n of", k, m, err)
		}
	}
}

// P6.2: of a key that may not be, prime.Check's error, ahead of a wrong cipher text's.
func TestDecryptWrongKey(t *testing.T) {
	for _, k := range wrongKeys() {
		for _, c := range append(wrong(), nil, api.Nat{1}, api.Nat{89736}, api.Nat{131}, filled(64, 1)) {
			if m, err := Decrypt(k, c); err != api.ErrKey || m != nil {
				t.Error(c, "of", k, m, err)
			}
		}
	}
}
