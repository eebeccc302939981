package modint

import (
	"math/big"
	"slices"
	"testing"

	"windbreak/api"
	"windbreak/nat"
)

// answers are all that the calls on two whole numbers, and on their sizes, tell.
func answers(a, b api.Int) []api.Nat {
	l := []api.Nat{From(true, a.Mag).Mag, Neg(a).Mag}
	whole := func(x api.Int, _ api.Errno) { l = append(l, x.Mag) }
	whole(Add(a, b))
	whole(Sub(a, b))
	whole(Mul(a, b))
	q, rest, _ := Floor(a, b)
	return append(append(l, q.Mag, rest.Mag), natAnswers(a.Mag, b.Mag, a.Mag, b.Mag)...)
}

// natAnswers are all that the calls on numbers tell.
func natAnswers(a, m, b, n api.Nat) []api.Nat {
	var l []api.Nat
	keep := func(x api.Nat, _ api.Errno) { l = append(l, x) }
	keep(Gcd(a, m))
	keep(Inverse(a, m))
	keep(Crt(a, m, b, n))
	return l
}

// spoil overwrites all that a list could reach, behind its end too.
func spoil(a api.Nat) {
	for i := range a[:cap(a)] {
		a[:cap(a)][i] ^= 0x5555555555555555
	}
}

func sameLists(x, y []api.Nat) bool {
	return slices.EqualFunc(x, y, func(a, b api.Nat) bool { return slices.Equal(a, b) })
}

// few are whole numbers of all kinds, with common divisors and without, equal ones and such of which one divides the other.
func few() []api.Int {
	var l []api.Int
	for _, a := range []api.Nat{nil, {1}, {2}, {3}, {12}, {18}, {top}, power(64), {5, 6}, less(power(512), 1), filled(64, top), power(4095)} {
		l = append(l, From(false, a), From(true, a))
	}
	return l
}

// R3: what is handed in stays as it is, behind its end too.
func TestHandedInStays(t *testing.T) {
	all := append(few(), wrong()...)
	for _, a := range all {
		for _, b := range all {
			x, y := append(slices.Clone(a.Mag), 11, 12), append(slices.Clone(b.Mag), 13, 14)
			c, d := api.Int{Neg: a.Neg, Mag: x[:len(a.Mag)]}, api.Int{Neg: b.Neg, Mag: y[:len(b.Mag)]}
			answers(c, d)
			Cmp(c, d)
			Right(c)
			Small(c)
			if !slices.Equal(x, append(slices.Clone(a.Mag), 11, 12)) || !slices.Equal(y, append(slices.Clone(b.Mag), 13, 14)) {
				t.Fatal("changed:", a, b)
			}
		}
	}
}

// checkOwn asks of answers that, when one is overwritten, neither another nor what was handed in changes.
func checkOwn(t *testing.T, tell func(l []api.Nat) []api.Nat, of ...api.Nat) {
	t.Helper()
	var handed []api.Nat
	for _, a := range of {
		handed = append(handed, slices.Clone(a))
	}
	want, got := tell(of), tell(handed)
	for i := range got {
		spoil(got[i])
		if !sameLists(got[i+1:], want[i+1:]) {
			t.Fatal("answers share memory:", i, of)
		}
	}
	if !sameLists(handed, of) || !sameLists(tell(handed), want) {
		t.Fatal("an answer shares memory with what was handed in:", of)
	}
}

// R3, R4: what is told is the caller's own: it shares nothing with what was handed in, nor with what else is told, nor is it kept.
func TestToldIsOwn(t *testing.T) {
	for _, a := range few() {
		for _, b := range few() {
			checkOwn(t, func(l []api.Nat) []api.Nat {
				return answers(api.Int{Neg: a.Neg, Mag: l[0]}, api.Int{Neg: b.Neg, Mag: l[1]})
			}, a.Mag, b.Mag)
		}
	}
	for _, m := range moduli() {
		for _, n := range moduli() {
			for _, a := range restsBy(m) {
				checkOwn(t, func(l []api.Nat) []api.Nat { return natAnswers(l[0], l[1], l[2], l[3]) }, a, m, nil, n)
				checkOwn(t, func(l []api.Nat) []api.Nat { return natAnswers(l[0], l[1], l[2], l[3]) }, a, m, less(n, 1), n)
			}
		}
	}
	a := Of(-5)
	a.Mag[0] = 6
	if !same(Of(-5), api.Int{Neg: true, Mag: api.Nat{5}}) {
		t.Error("limbs are kept")
	}
}

// R3: one list that is handed in twice is no other than two.
func TestHandedInTwice(t *testing.T) {
	for _, a := range append(few(), wrong()...) {
		b := api.Int{Neg: a.Neg, Mag: slices.Clone(a.Mag)}
		if !sameLists(answers(a, a), answers(a, b)) {
			t.Error("handed in twice:", a)
		}
	}
}

// R2: nil and empty are the same, handed in.
func TestNilAndEmpty(t *testing.T) {
	none, empty := api.Int{}, api.Int{Mag: api.Nat{}}
	for _, a := range samples() {
		if !sameLists(answers(a, none), answers(a, empty)) || !sameLists(answers(none, a), answers(empty, a)) {
			t.Error("nil and empty:", a)
		}
		if Cmp(a, none) != Cmp(a, empty) || Cmp(none, a) != Cmp(empty, a) {
			t.Error("the order:", a)
		}
	}
	if n, ok := Small(empty); n != 0 || !ok || !Right(empty) {
		t.Error("0 of an empty list")
	}
	if x, err := Crt(api.Nat{}, api.Nat{3}, api.Nat{}, api.Nat{5}); err != api.OK || len(x) != 0 {
		t.Error("rests of empty lists:", x, err)
	}
}

// R1, P1: at all arguments each call ends without a panic; beside an error there is nothing else, and without one the answer may be.
func TestAllArguments(t *testing.T) {
	tell := func(what string, err api.Errno, l ...api.Int) {
		for _, a := range l {
			if err != api.OK && !none(a) || !Right(a) {
				t.Error(what, err, a)
			}
		}
	}
	size := func(what string) func(a api.Nat, err api.Errno) {
		return func(a api.Nat, err api.Errno) {
			if err != api.OK && a != nil || !nat.Right(a) {
				t.Error(what, err, a)
			}
		}
	}
	all := slices.Concat(few(), wrong())
	for _, a := range all {
		tell("Neg", api.OK, Neg(a), From(a.Neg, a.Mag))
		for _, b := range all {
			x, err := Add(a, b)
			tell("Add", err, x)
			x, err = Sub(a, b)
			tell("Sub", err, x)
			x, err = Mul(a, b)
			tell("Mul", err, x)
			q, rest, err := Floor(a, b)
			tell("Floor", err, q, rest)
			size("Gcd")(Gcd(a.Mag, b.Mag))
			size("Inverse")(Inverse(a.Mag, b.Mag))
			size("Crt")(Crt(a.Mag, b.Mag, nil, api.Nat{3}))
			size("Crt")(Crt(nil, api.Nat{3}, a.Mag, b.Mag))
		}
	}
}

// FuzzCalls looks for arguments at which a call panics, or tells another number than another reckoning.
func FuzzCalls(f *testing.F) {
	f.Add([]byte(nil), true, []byte{1}, false)
	f.Add([]byte{7}, true, []byte{2}, false)
	f.Add(nat.Bytes(filled(64, top)), true, nat.Bytes(power(511)), false)
	f.Fuzz(func(t *testing.T, x []byte, below bool, y []byte, under bool) {
		m, _ := nat.Read(x)
		n, _ := nat.Read(y)
		a, b := From(below, m), From(under, n)
		s, err := Sub(a, b)
		check(t, "Sub", s, err, new(big.Int).Sub(whole(a), whole(b)))
		s, err = Mul(a, b)
		check(t, "Mul", s, err, new(big.Int).Mul(whole(a), whole(b)))
		if Cmp(b, Of(0)) > 0 {
			checkFloor(t, a, b)
		}
		if nat.Cmp(n, api.Nat{2}) >= 0 {
			checkInverse(t, m, n)
		}
		if nat.Cmp(m, api.Nat{2}) >= 0 && nat.Cmp(n, api.Nat{2}) >= 0 && len(m) <= api.MaxMod && len(n) <= api.MaxMod {
			checkCrt(t, less(m, 1), m, api.Nat{1}, n)
		}
	})
}
