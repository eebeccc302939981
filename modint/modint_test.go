package modint

import (
	"math"
	"slices"
	"testing"

	"windbreak/api"
)

// P3.1: which parts are a whole number's.
func TestRight(t *testing.T) {
	for _, a := range samples() {
		if !Right(a) {
			t.Error("refused:", a)
		}
	}
	for _, a := range wrong() {
		if Right(a) {
			t.Error("taken:", a)
		}
	}
	if !Right(api.Int{}) || !Right(api.Int{Mag: api.Nat{}}) || Right(api.Int{Neg: true}) {
		t.Error("0, and 0 that is Neg")
	}
	if !Right(api.Int{Neg: true, Mag: filled(64, 1)}) || Right(api.Int{Neg: true, Mag: filled(65, 1)}) {
		t.Error("64 limbs, and 65")
	}
	if !Right(api.Int{Neg: true, Mag: api.Nat{0, 1}}) || Right(api.Int{Neg: true, Mag: api.Nat{1, 0}}) {
		t.Error("a limb 0 ahead, and behind")
	}
}

// P3.1: small whole numbers, to the least and the greatest, there and back.
func TestOf(t *testing.T) {
	for _, c := range []struct {
		n    int64
		want api.Int
	}{
		{0, api.Int{}}, {1, api.Int{Mag: api.Nat{1}}}, {-1, api.Int{Neg: true, Mag: api.Nat{1}}},
		{7, api.Int{Mag: api.Nat{7}}}, {-7, api.Int{Neg: true, Mag: api.Nat{7}}},
		{math.MaxInt64, api.Int{Mag: api.Nat{1<<63 - 1}}},
		{math.MinInt64 + 1, api.Int{Neg: true, Mag: api.Nat{1<<63 - 1}}},
		{math.MinInt64, api.Int{Neg: true, Mag: api.Nat{1 << 63}}},
	} {
		if a := Of(c.n); !same(a, c.want) || !Right(a) {
			t.Error("of", c.n, a)
		}
		if n, ok := Small(c.want); n != c.n || !ok {
			t.Error("small of", c.want, n, ok)
		}
	}
}

// P3.1: Small, of which those beyond its ends, long ones and those that may not be are none.
func TestSmall(t *testing.T) {
	for _, a := range samples() {
		v := whole(a)
		n, ok := Small(a)
		if v.IsInt64() != ok || ok && n != v.Int64() || !ok && n != 0 {
			t.Error(a, n, ok)
		}
	}
	beyond := []api.Int{
		{Mag: api.Nat{1 << 63}}, {Neg: true, Mag: api.Nat{1<<63 + 1}}, {Mag: api.Nat{top}}, {Neg: true, Mag: api.Nat{top}},
		{Mag: power(64)}, {Neg: true, Mag: power(64)}, {Neg: true, Mag: api.Nat{5, 1}}, {Neg: true, Mag: filled(64, top)},
	}
	for _, a := range append(beyond, wrong()...) {
		if n, ok := Small(a); n != 0 || ok {
			t.Error("no small one:", a, n, ok)
		}
	}
}

// P3.1: From, of which 0 is not Neg, and what may not be the zero one.
func TestFrom(t *testing.T) {
	for _, mag := range sizes() {
		if a := From(false, mag); !same(a, api.Int{Mag: mag}) {
			t.Error("above:", a, mag)
		}
		if a := From(true, mag); !same(a, api.Int{Neg: len(mag) > 0, Mag: mag}) || !Right(a) {
			t.Error("below:", a, mag)
		}
	}
	for _, mag := range wrongSizes() {
		for _, neg := range []bool{false, true} {
			if a := From(neg, mag); !none(a) {
				t.Error("of what may not be:", a, neg, mag)
			}
		}
	}
}

// P3.1: the order of whole numbers; of what may not be, it is 0.
func TestCmp(t *testing.T) {
	for _, a := range samples() {
		for _, b := range samples() {
			if got, want := Cmp(a, b), whole(a).Cmp(whole(b)); got != want {
				t.Error(a, b, got, want)
			}
		}
	}
	for n := int64(-9); n < 9; n++ {
		if Cmp(Of(n), Of(n+1)) != -1 || Cmp(Of(n+1), Of(n)) != 1 || Cmp(Of(n), Of(n)) != 0 {
			t.Error("the order of", n, "and the next one")
		}
	}
	for _, w := range wrong() {
		for _, a := range append(samples(), wrong()...) {
			if Cmp(w, a) != 0 || Cmp(a, w) != 0 {
				t.Error("of what may not be:", w, a)
			}
		}
	}
}

// P3.1: the opposite; of 0 it is 0, not Neg, and of what may not be the zero one.
func TestNeg(t *testing.T) {
	for _, a := range samples() {
		want := api.Int{Neg: !a.Neg && len(a.Mag) > 0, Mag: a.Mag}
		if got := Neg(a); !same(got, want) || !Right(got) || !same(Neg(got), a) {
			t.Error(a, got)
		}
	}
	if a := Neg(Of(math.MinInt64)); a.Neg || !slices.Equal(a.Mag, api.Nat{1 << 63}) {
		t.Error("of the least small one:", a)
	}
	for _, w := range wrong() {
		if a := Neg(w); !none(a) {
			t.Error("of what may not be:", w, a)
		}
	}
}
