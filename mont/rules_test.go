package mont

import (
	"slices"
	"testing"

	"windbreak/api"
	"windbreak/nat"
)

// answers are all that a ring tells of two numbers.
func answers(r *Ring, a, b api.Nat) []api.Nat {
	var l []api.Nat
	keep := func(x api.Nat, _ api.Errno) { l = append(l, x) }
	keep(r.In(a))
	keep(r.Out(a))
	keep(r.Mul(a, b))
	keep(r.Exp(a, b))
	return l
}

// spoil overwrites all that a list could reach, behind its end too.
func spoil(a api.Nat) {
	for i := range a[:cap(a)] {
		a[:cap(a)][i] ^= 0x5555555555555555
	}
}

func sameLists(x, y []api.Nat) bool {
	return slices.EqualFunc(x, y, func(a, b api.Nat) bool { return slices.Equal(a, b) })
}

// R3: what is handed in stays as it is, behind its end too.
func TestHandedInStays(t *testing.T) {
	for _, n := range moduli() {
		m := append(slices.Clone(n), 9, 8)
		r := ring(t, m[:len(n)])
		for _, a := range slices.Concat(below(n), notBelow(n), wrong()) {
			for _, b := range slices.Concat(below(n)[:8], notBelow(n), wrong()) {
				x, y := append(slices.Clone(a), 11, 12), append(slices.Clone(b), 13, 14)
				answers(r, x[:len(a)], y[:len(b)])
				if !slices.Equal(x, append(slices.Clone(a), 11, 12)) || !slices.Equal(y, append(slices.Clone(b), 13, 14)) {
					t.Fatal("changed:", a, b, n)
				}
			}
		}
		if !slices.Equal(m, append(slices.Clone(n), 9, 8)) {
			t.Fatal("the modulus is changed:", n)
		}
	}
}

// R3: a ring shares nothing with the modulus that New was given.
func TestRingIsOwn(t *testing.T) {
	for _, n := range moduli() {
		m, a := slices.Clone(n), less(n, 1)
		r := ring(t, m)
		want := answers(r, a, a)
		spoil(m)
		if !sameLists(answers(r, a, a), want) {
			t.Error("the modulus is shared:", n)
		}
	}
}

// R3, R4: what is told is the caller's own: neither what was handed in, nor another answer, nor the ring hangs on it.
func TestToldIsOwn(t *testing.T) {
	for _, n := range moduli() {
		r := ring(t, n)
		for _, a := range below(n) {
			for _, b := range below(n)[:8] {
				x, y := slices.Clone(a), slices.Clone(b)
				want := answers(r, a, b)
				got := answers(r, x, y)
				for i := range got {
					spoil(got[i])
					if !sameLists(got[i+1:], want[i+1:]) {
						t.Fatal("answers share memory:", a, b, n)
					}
				}
				if !slices.Equal(x, a) || !slices.Equal(y, b) || !sameLists(answers(r, a, b), want) {
					t.Fatal("an answer shares memory with what was handed in, or with the ring:", a, b, n)
				}
			}
		}
	}
}

// R2: nil and empty are the same, handed in.
func TestNilAndEmpty(t *testing.T) {
	for _, n := range moduli() {
		r := ring(t, n)
		for _, a := range below(n) {
			if !sameLists(answers(r, a, nil), answers(r, a, api.Nat{})) || !sameLists(answers(r, nil, a), answers(r, api.Nat{}, a)) {
				t.Error("nil and empty:", a, n)
			}
		}
	}
}

// P1: no call panics, nor does one of a ring that New did not make.
func TestNoRing(t *testing.T) {
	for _, r := range []*Ring{nil, {}} {
		for _, a := range slices.Concat([]api.Nat{nil, {1}, {top}, filled(8, top)}, wrong()) {
			x, err := r.In(a)
			refused(t, x, err, "In", a)
			x, err = r.Out(a)
			refused(t, x, err, "Out", a)
			x, err = r.Mul(a, a)
			refused(t, x, err, "Mul", a)
			x, err = r.Exp(a, a)
			refused(t, x, err, "Exp", a)
		}
	}
}

// FuzzRing looks for a modulus and numbers at which a call panics, or breaks the stage's theorem.
func FuzzRing(f *testing.F) {
	f.Add([]byte{15}, []byte{7}, []byte{10})
	f.Add(nat.Bytes(filled(8, top)), nat.Bytes(filled(8, top-1)), nat.Bytes(filled(8, top)))
	f.Fuzz(func(t *testing.T, n, a, e []byte) {
		m, _ := nat.Read(n)
		x, _ := nat.Read(a)
		y, _ := nat.Read(e)
		r, err := New(m)
		if err != api.OK {
			return
		}
		if told, err := r.Exp(x, y); err == api.OK {
			v := number(m)
			check(t, told, err, limbs(number(x).Exp(number(x), number(y), v)), "Exp", x, y, m)
		}
		if in, err := r.In(x); err == api.OK {
			out, err := r.Out(in)
			check(t, out, err, x, "Out of In", x, m)
		}
	})
}
