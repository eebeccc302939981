package modint

import (
	"math/big"
	"math/rand/v2"
	"slices"
	"testing"

	"windbreak/api"
	"windbreak/nat"
)

const top = ^uint64(0)

// number is limbs as a number of another reckoning than the package's own; limbs are back again, however many.
func number(a api.Nat) *big.Int {
	v := new(big.Int)
	for i := len(a) - 1; i >= 0; i-- {
		v.Or(v.Lsh(v, 64), new(big.Int).SetUint64(a[i]))
	}
	return v
}

func limbs(v *big.Int) api.Nat {
	var a api.Nat
	mask := new(big.Int).SetUint64(top)
	for v = new(big.Int).Abs(v); v.Sign() > 0; v.Rsh(v, 64) {
		a = append(a, new(big.Int).And(v, mask).Uint64())
	}
	return a
}

// whole is a whole number by the other reckoning; parts is back again.
func whole(a api.Int) *big.Int {
	v := number(a.Mag)
	if a.Neg {
		v.Neg(v)
	}
	return v
}

func parts(v *big.Int) api.Int { return api.Int{Neg: v.Sign() < 0, Mag: limbs(v)} }

// filled is so many limbs, each the same; power is 2 to the power of n.
func filled(count int, limb uint64) api.Nat { return slices.Repeat(api.Nat{limb}, count) }

func power(n int) api.Nat { return append(filled(n/64, 0), 1<<(n%64)) }

// plus is a number and a small one; less is one less a small one.
func plus(a api.Nat, n uint64) api.Nat {
	return limbs(new(big.Int).Add(number(a), number(api.Nat{n})))
}

func less(a api.Nat, n uint64) api.Nat {
	return limbs(new(big.Int).Sub(number(a), number(api.Nat{n})))
}

// times is a product of any length.
func times(a, b api.Nat) api.Nat { return limbs(new(big.Int).Mul(number(a), number(b))) }

// drawn is so many limbs, of which many are 0 or the greatest, where carries go far.
func drawn(r *rand.Rand, count int) api.Nat {
	a := make(api.Nat, count)
	for i := range a {
		a[i] = []uint64{0, top, r.Uint64(), r.Uint64()}[r.IntN(4)]
	}
	if count > 0 && a[count-1] == 0 {
		a[count-1] = 1 + r.Uint64N(3)
	}
	return a
}

// sizes are the edges that the document names, and numbers of many lengths.
func sizes() []api.Nat {
	r := rand.New(rand.NewPCG(1, 3))
	l := []api.Nat{
		nil, {}, {1}, {2}, {3}, {7}, {12}, {18}, {1<<63 - 1}, {1 << 63}, {1<<63 + 1}, {top},
		power(64), plus(power(64), 1), {top, top}, {0, top},
		less(power(512), 1), power(512), filled(32, top), power(2048), filled(33, 1),
		filled(63, top), power(4032), power(4095), plus(power(4095), 1), less(filled(64, top), 1), filled(64, top),
	}
	for _, n := range []int{1, 2, 3, 7, 8, 9, 16, 31, 32, 33, 63, 64} {
		l = append(l, drawn(r, n))
	}
	return l
}

// samples are whole numbers of all these sizes, above 0 and below.
func samples() []api.Int {
	var l []api.Int
	for _, a := range sizes() {
		l = append(l, api.Int{Mag: a})
		if len(a) > 0 {
			l = append(l, api.Int{Neg: true, Mag: a})
		}
	}
	return l
}

// wrongSizes are limbs that are no number's; wrong are parts that are no whole number's.
func wrongSizes() []api.Nat {
	return []api.Nat{{0}, {1, 0}, {0, 0}, {top, top, 0}, append(filled(7, 1), 0), append(filled(63, 1), 0), filled(65, 1), filled(65, 0), filled(1000, 3)}
}

func wrong() []api.Int {
	l := []api.Int{{Neg: true}, {Neg: true, Mag: api.Nat{}}}
	for _, a := range wrongSizes() {
		l = append(l, api.Int{Mag: a}, api.Int{Neg: true, Mag: a})
	}
	return l
}

// same compares parts; nil and empty are the same.
func same(a, b api.Int) bool { return a.Neg == b.Neg && slices.Equal(a.Mag, b.Mag) }

// none tells whether a whole number is the zero value.
func none(a api.Int) bool { return !a.Neg && a.Mag == nil }

// check asks of an answer that it is a whole number, and which one: ErrNatLong, if that is too long.
func check(t *testing.T, what string, got api.Int, err api.Errno, want *big.Int) {
	t.Helper()
	if p := parts(want); len(p.Mag) > api.MaxLimbs {
		if err != api.ErrNatLong || !none(got) {
			t.Errorf("%s: %v, error %d; asked ErrNatLong", what, got, err)
		}
	} else if err != api.OK || !same(got, p) {
		t.Errorf("%s: %v, error %d; asked %v", what, got, err, p)
	}
}

// checkNat asks of an answer that it is a number without an error, and which one.
func checkNat(t *testing.T, what string, got api.Nat, err api.Errno, want api.Nat) {
	t.Helper()
	if err != api.OK || !slices.Equal(got, want) {
		t.Errorf("%s: %v, error %d; asked %v", what, got, err, want)
	}
}

// refused asks of an answer that it is an error, and nothing beside; refusedNat asks that of a number.
func refused(t *testing.T, what string, got api.Int, err, want api.Errno) {
	t.Helper()
	if err != want || !none(got) {
		t.Errorf("%s: %v, error %d; asked error %d", what, got, err, want)
	}
}

func refusedNat(t *testing.T, what string, got api.Nat, err, want api.Errno) {
	t.Helper()
	if err != want || got != nil {
		t.Errorf("%s: %v, error %d; asked error %d", what, got, err, want)
	}
}

// must takes an answer that has no error.
func must(t *testing.T) func(a api.Nat, err api.Errno) api.Nat {
	return func(a api.Nat, err api.Errno) api.Nat {
		t.Helper()
		if err != api.OK {
			t.Fatal("error", err)
		}
		return a
	}
}

// text is a number as it is told when a test fails.
func text(a api.Nat) string { return nat.Text(a) }
