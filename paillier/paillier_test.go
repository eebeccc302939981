package paillier

import (
	"slices"
	"testing"

	"windbreak/api"
	"windbreak/nat"
	"windbreak/prime"
)

// P6.1: the public part of keys of each length, in both orders.
func TestPublic(t *testing.T) {
	for _, k := range keys() {
		for _, x := range []api.Key{k, {P: k.Q, Q: k.P}} {
			n, err := Public(x)
			if err != api.OK || !slices.Equal(n, of(k)) || !May(n) {
				t.Error("public part of", x, n, err)
			}
		}
	}
}

// P6.1: the public part of a key that may not be: prime.Check's error, and nothing beside.
func TestPublicOfWrongKeys(t *testing.T) {
	for _, k := range wrongKeys() {
		if n, err := Public(k); err != api.ErrKey || err != prime.Check(k) || n != nil {
			t.Error("public part of", k, n, err)
		}
	}
}

// P6.1: which numbers may be public keys: the odd ones of 15 to 80 bits, whatever divides them.
func TestMay(t *testing.T) {
	for _, n := range bases() {
		if !May(n) {
			t.Error(n, "may be")
		}
	}
	for _, n := range wrongBases() {
		if May(n) {
			t.Error(n, "may not be")
		}
	}
	for n := range uint64(1 << 16) {
		if May(nat.Of(n)) != (n > 1<<14 && n%2 == 1) {
			t.Error(n, May(nat.Of(n)))
		}
	}
}

// P6.1: how many bits a public key may have, of both edges of each length.
func TestMayByLength(t *testing.T) {
	for length := 1; length <= 300; length++ {
		for _, n := range []api.Nat{twoTo(length-1, 1), twoTo(length, -1)} {
			if length > 1 && May(n) != (length >= 15 && length <= 80) {
				t.Error("of", length, "bits:", n, May(n))
			}
		}
		for _, n := range []api.Nat{twoTo(length-1, 0), twoTo(length, -2)} {
			if length > 1 && May(n) {
				t.Error("an even one of", length, "bits:", n)
			}
		}
	}
}

// P6.1: which numbers are cipher texts, of keys' public parts and of others.
func TestValid(t *testing.T) {
	for _, n := range bases() {
		for _, c := range some(n) {
			if Valid(n, c) != (aCipher.fault(n, c) == api.OK) {
				t.Error(c, "of", n, Valid(n, c))
			}
		}
	}
	for _, k := range fewKeys() {
		n := of(k)
		all := limbs(number(n).Mul(number(n), number(n)))
		for _, c := range []api.Nat{{1}, {2}, more(n, -1), more(n, 1), more(all, -1), more(all, -2)} {
			if !Valid(n, c) {
				t.Error(c, "of", n, "is a cipher text")
			}
		}
		for _, c := range slices.Concat(divided(k), []api.Nat{nil, {}, n, times(n, 2), all, more(all, 1), more(all, 2), times(all, 2)}, wrong()) {
			if Valid(n, c) {
				t.Error(c, "of", n, "is no cipher text")
			}
		}
	}
}

// P6.1: all numbers from 0 on, some way, of a number that many divide.
func TestSmallValid(t *testing.T) {
	n := uint64(255255) // 3, 5, 7, 11, 13 and 17
	for c := range uint64(3000) {
		want := c > 0
		for _, p := range []uint64{3, 5, 7, 11, 13, 17} {
			want = want && c%p > 0
		}
		if Valid(nat.Of(n), nat.Of(c)) != want {
			t.Error(c, Valid(nat.Of(n), nat.Of(c)))
		}
	}
}

// P6.1: of what may not be a public key nothing is a cipher text.
func TestValidOfWrong(t *testing.T) {
	for _, n := range wrongBases() {
		for _, c := range append(wrong(), nil, api.Nat{1}, api.Nat{2}, api.Nat{89736}, n) {
			if Valid(n, c) {
				t.Error(c, "of", n)
			}
		}
	}
}
