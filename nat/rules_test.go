package nat

import (
	"bytes"
	"math"
	"slices"
	"testing"

	"windbreak/api"
)

// answers are all lists that the calls tell of two numbers and a small one.
func answers(a, b api.Nat, n int) []api.Nat {
	var l []api.Nat
	keep := func(x api.Nat, _ api.Errno) { l = append(l, x) }
	keep(Add(a, b))
	keep(Sub(a, b))
	keep(Mul(a, b))
	keep(Shl(a, n))
	keep(Shr(a, n))
	keep(Read(Bytes(a)))
	keep(Parse(Text(a)))
	q, rest, _ := Div(a, b)
	return append(l, q, rest)
}

// spoil overwrites all that a list could reach, behind its end too.
func spoil(a api.Nat) {
	for i := range a[:cap(a)] {
		a[:cap(a)][i] ^= 0x5555555555555555
	}
}

// R3: what is handed in stays as it is, behind its end too.
func TestHandedInStays(t *testing.T) {
	for _, a := range append(samples(), wrong()...) {
		for _, b := range append(samples(), wrong()...) {
			x := append(slices.Clone(a), 11, 12)
			y := append(slices.Clone(b), 13, 14)
			answers(x[:len(a)], y[:len(b)], 3)
			Cmp(x[:len(a)], y[:len(b)])
			Bit(x[:len(a)], 1)
			if !same(x, append(slices.Clone(a), 11, 12)) || !same(y, append(slices.Clone(b), 13, 14)) {
				t.Fatal("changed:", a, b)
			}
		}
	}
	b := []byte{0, 0, 1, 2, 3, 4, 5, 6, 7, 8, 9}
	if Read(b); !bytes.Equal(b, []byte{0, 0, 1, 2, 3, 4, 5, 6, 7, 8, 9}) {
		t.Error("bytes changed:", b)
	}
}

// R3: what is told is the caller's own: it shares nothing with what was handed in, nor with what else is told.
func TestToldIsOwn(t *testing.T) {
	few := []api.Nat{nil, {1}, {top}, {5, 6}, power(64), filled(32, top), filled(64, top), power(4095)}
	for _, a := range few {
		for _, b := range few {
			for _, n := range []int{0, 1, 64} {
				x, y := slices.Clone(a), slices.Clone(b)
				want := answers(a, b, n)
				got := answers(x, y, n)
				for i := range got {
					spoil(got[i])
					for k := i + 1; k < len(got); k++ {
						if !same(got[k], want[k]) {
							t.Fatal("answers share memory:", i, k, a, b)
						}
					}
				}
				if !same(x, a) || !same(y, b) {
					t.Fatal("an answer shares memory with what was handed in:", a, b)
				}
			}
		}
	}
}

// R3, R4: bytes that are told are new ones each time, and Of's limbs too.
func TestToldAnew(t *testing.T) {
	b := Bytes(api.Nat{258})
	b[0] = 9
	if !bytes.Equal(Bytes(api.Nat{258}), []byte{1, 2}) {
		t.Error("bytes are kept")
	}
	a := Of(5)
	a[0] = 6
	if !same(Of(5), api.Nat{5}) {
		t.Error("limbs are kept")
	}
}

// R2: nil and empty are the same, handed in.
func TestNilAndEmpty(t *testing.T) {
	for _, a := range samples() {
		for i, x := range answers(a, nil, 1) {
			if !same(x, answers(a, api.Nat{}, 1)[i]) {
				t.Error("behind:", a, i)
			}
		}
		for i, x := range answers(nil, a, 1) {
			if !same(x, answers(api.Nat{}, a, 1)[i]) {
				t.Error("ahead:", a, i)
			}
		}
	}
	if n, ok := Small(api.Nat{}); n != 0 || !ok || Text(api.Nat{}) != "0" || !Right(api.Nat{}) || Cmp(nil, api.Nat{}) != 0 {
		t.Error("0 as an empty list")
	}
}

// R1, P1: at all arguments each call ends without a panic; beside an error there is nothing else, and without one the answer may be.
func TestAllArguments(t *testing.T) {
	tell := func(what string, err api.Errno, l ...api.Nat) {
		for _, a := range l {
			if err != api.OK && a != nil || !Right(a) {
				t.Error(what, err, a)
			}
		}
	}
	all := append(samples(), wrong()...)
	for _, a := range all {
		for _, n := range []int{math.MinInt, -1, 0, 1, 63, 64, 4095, 4096, math.MaxInt} {
			s, err := Shl(a, n)
			tell("up", err, s)
			s, err = Shr(a, n)
			tell("down", err, s)
			Bit(a, n)
		}
		for _, b := range all {
			s, err := Add(a, b)
			tell("sum", err, s)
			s, err = Sub(a, b)
			tell("difference", err, s)
			s, err = Mul(a, b)
			tell("product", err, s)
			q, rest, err := Div(a, b)
			tell("quotient", err, q, rest)
		}
	}
}

// FuzzCalls looks for arguments at which a call panics, or tells what may not be.
func FuzzCalls(f *testing.F) {
	f.Add([]byte(nil), []byte(nil), 0)
	f.Add([]byte{1, 2, 3}, []byte("123"), -1)
	f.Add(bytes.Repeat([]byte{255}, 512), bytes.Repeat([]byte{1}, 9), 64)
	f.Fuzz(func(t *testing.T, x, y []byte, n int) {
		a, errA := Read(x)
		b, errB := Read(y)
		for _, told := range answers(a, b, n) {
			if !Right(told) {
				t.Error("may not be:", told)
			}
		}
		if errA == api.OK && errB == api.OK && len(b) > 0 {
			checkDiv(t, a, b)
		}
		if p, err := Parse(string(y)); err == api.OK && Text(p) != string(y) {
			t.Errorf("%q is read as %v", y, p)
		}
	})
}
