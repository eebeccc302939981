package nat

import (
	"testing"

	"windbreak/api"
)

// P1.1: which limbs are a number's.
func TestRight(t *testing.T) {
	for _, a := range samples() {
		if !Right(a) {
			t.Error("refused:", a)
		}
	}
	for _, a := range wrong() {
		if Right(a) {
			t.Error("taken:", a)
		}
	}
	if !Right(filled(64, 1)) || Right(filled(65, 1)) {
		t.Error("64 limbs, and one more")
	}
	if !Right(api.Nat{0, 1}) || Right(api.Nat{1, 0}) {
		t.Error("a limb 0 ahead, and one behind")
	}
}

// P1.1: small numbers there and back.
func TestOfAndSmall(t *testing.T) {
	if len(Of(0)) != 0 {
		t.Error("0 has no limbs:", Of(0))
	}
	for _, n := range []uint64{0, 1, 5, 1 << 63, top} {
		a := Of(n)
		if n > 0 && !same(a, api.Nat{n}) {
			t.Error("the number", n, "is", a)
		}
		if m, ok := Small(a); m != n || !ok {
			t.Error("small of", n, "is", m, ok)
		}
	}
	for _, a := range append(wrong(), power(64), api.Nat{5, 1}, filled(64, top)) {
		if m, ok := Small(a); m != 0 || ok {
			t.Error("no small one:", a, m, ok)
		}
	}
}

// P1.1: the order of numbers.
func TestCmp(t *testing.T) {
	for _, a := range samples() {
		for _, b := range samples() {
			if got, want := Cmp(a, b), toBig(a).Cmp(toBig(b)); got != want {
				t.Error(a, b, got, want)
			}
		}
	}
	// The high limb goes ahead of the low one.
	if Cmp(api.Nat{top, 1}, api.Nat{0, 2}) != -1 || Cmp(api.Nat{1, 7}, api.Nat{0, 7}) != 1 {
		t.Error("the order of limbs")
	}
	for _, w := range wrong() {
		for _, a := range []api.Nat{nil, {5}, {0}, filled(64, top)} {
			if Cmp(w, a) != 0 || Cmp(a, w) != 0 {
				t.Error("of what may not be, it is 0:", w, a)
			}
		}
	}
}
