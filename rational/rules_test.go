package rational

import (
	"math/big"
	"slices"
	"testing"

	"windbreak/api"
	"windbreak/modint"
	"windbreak/nat"
)

// lists are those of two fractions: what the calls are handed.
func lists(a, b api.Frac) []api.Nat { return []api.Nat{a.Num.Mag, a.Den, b.Num.Mag, b.Den} }

// bound are two fractions of given lists, with the signs of two others.
func bound(l []api.Nat, a, b api.Frac) (api.Frac, api.Frac) {
	return api.Frac{Num: api.Int{Neg: a.Num.Neg, Mag: l[0]}, Den: l[1]}, api.Frac{Num: api.Int{Neg: b.Num.Neg, Mag: l[2]}, Den: l[3]}
}

// answers are the lists that are told of two fractions, each call's error and small answers with them.
func answers(a, b api.Frac) []api.Nat {
	var l []api.Nat
	keep := func(neg bool, err api.Errno, told ...api.Nat) {
		l = append(append(l, told...), api.Nat{uint64(err), truth(neg)})
	}
	for _, c := range calls() {
		x, err := c.ask(a, b)
		keep(x.Num.Neg, err, x.Num.Mag, x.Den)
	}
	x, err := Make(a.Num, b.Den)
	keep(x.Num.Neg, err, x.Num.Mag, x.Den)
	x, err = Make(a.Num, a.Den)
	keep(x.Num.Neg, err, x.Num.Mag, x.Den)
	q, err := Floor(a)
	keep(q.Neg, err, q.Mag)
	return append(l, api.Nat{uint64(Cmp(a, b)), truth(Right(a))})
}

func truth(b bool) uint64 {
	if b {
		return 1
	}
	return 0
}

// spoil overwrites all that a list could reach, behind its end too.
func spoil(a api.Nat) {
	for i := range a[:cap(a)] {
		a[:cap(a)][i] ^= 0x5555555555555555
	}
}

func sameLists(x, y []api.Nat) bool {
	return slices.EqualFunc(x, y, func(a, b api.Nat) bool { return slices.Equal(a, b) })
}

// copies are lists of their own, with room behind their ends in which something stands.
func copies(l []api.Nat) []api.Nat {
	var c []api.Nat
	for _, a := range l {
		c = append(c, append(slices.Clone(a), 11, 12)[:len(a)])
	}
	return c
}

// R3: what is handed in stays as it is, behind its end too.
func TestHandedInStays(t *testing.T) {
	all := append(few(), wrong()...)
	for _, a := range all {
		for _, b := range all {
			l := copies(lists(a, b))
			answers(bound(l, a, b))
			for i, want := range lists(a, b) {
				if n := len(want); !slices.Equal(l[i][:n+2], append(slices.Clone(want), 11, 12)) {
					t.Fatal("changed:", a, b)
				}
			}
		}
	}
}

// R3, R4: what is told is the caller's own: it shares nothing with what was handed in, nor with what else is told, nor is it kept.
func TestToldIsOwn(t *testing.T) {
	for _, a := range few() {
		for _, b := range few() {
			l := copies(lists(a, b))
			want, got := answers(a, b), answers(bound(l, a, b))
			for i := range got {
				spoil(got[i])
				if !sameLists(got[i+1:], want[i+1:]) {
					t.Fatal("answers share memory:", i, a, b)
				}
			}
			if !sameLists(l, lists(a, b)) || !sameLists(answers(bound(l, a, b)), want) {
				t.Fatal("an answer shares memory with what was handed in, or with a later one:", a, b)
			}
		}
	}
}

// R3: one list that is handed in twice is no other than two.
func TestHandedInTwice(t *testing.T) {
	for _, a := range append(few(), wrong()...) {
		again, _ := bound(copies(lists(a, a)), a, a)
		if !sameLists(answers(a, a), answers(a, again)) {
			t.Error("a fraction handed in twice:", a)
		}
		both := api.Frac{Num: api.Int{Mag: a.Den}, Den: a.Den}
		apart := api.Frac{Num: api.Int{Mag: slices.Clone(a.Den)}, Den: a.Den}
		if !sameLists(answers(both, a), answers(apart, a)) {
			t.Error("a list that is both parts:", a.Den)
		}
	}
}

// R2: nil and empty are the same, handed in.
func TestNilAndEmpty(t *testing.T) {
	zeros := []api.Frac{{Den: api.Nat{1}}, {Num: api.Int{Mag: api.Nat{}}, Den: api.Nat{1}}}
	noDens := []api.Frac{{Num: modint.Of(3)}, {Num: modint.Of(3), Den: api.Nat{}}}
	for _, two := range [][]api.Frac{zeros, noDens} {
		for _, a := range append(few(), wrong()...) {
			if !sameLists(answers(a, two[0]), answers(a, two[1])) || !sameLists(answers(two[0], a), answers(two[1], a)) {
				t.Error("nil and empty:", a, two)
			}
		}
	}
	if !Right(zeros[0]) || !Right(zeros[1]) || Cmp(zeros[0], zeros[1]) != 0 || Right(noDens[0]) || Right(noDens[1]) {
		t.Error("0 by 1, and 3 by 0")
	}
}

// R4: what is told hangs on what is handed in alone, not on what was asked before.
func TestNothingKept(t *testing.T) {
	play := func(between func()) []api.Nat {
		var l []api.Nat
		for _, a := range few() {
			for _, b := range few() {
				l = append(l, answers(a, b)...)
				between()
			}
		}
		return l
	}
	between := func() {
		answers(small(-7, 2), by(power(1024, -1), power(1023, 0)))
		answers(small(1, 3), api.Frac{})
	}
	if !sameLists(play(func() {}), play(between)) {
		t.Error("an answer hangs on others")
	}
}

// R1, P1: at all arguments each call ends without a panic; beside an error there is nothing else, and without one the answer may be.
func TestAllArguments(t *testing.T) {
	all := slices.Concat(few(), wrong())
	tell := func(what string, a api.Frac, err api.Errno) {
		t.Helper()
		if err != api.OK && !noFrac(a) || err == api.OK && !mayFrac(a) {
			t.Error(what, a, err)
		}
	}
	for _, a := range all {
		for _, b := range all {
			for _, c := range calls() {
				x, err := c.ask(a, b)
				tell(c.name, x, err)
			}
			x, err := Make(a.Num, b.Den)
			tell("Make", x, err)
			checkMake(t, a.Num, b.Den)
			checkCmp(t, a, b)
		}
		q, err := Floor(a)
		if err != api.OK && !noInt(q) || !modint.Right(q) {
			t.Error("Floor", a, q, err)
		}
	}
}

// FuzzFractions looks for arguments at which a call panics, or tells something else than another reckoning.
func FuzzFractions(f *testing.F) {
	f.Add([]byte(nil), true, []byte{1}, []byte{7}, false, []byte{2})
	f.Add([]byte{6}, true, []byte{4}, []byte{1}, true, []byte{3})
	f.Add(nat.Bytes(filled(16, top)), false, []byte{1}, []byte{1}, false, nat.Bytes(filled(16, top)))
	f.Add(nat.Bytes(limbs(power(512, 0))), true, nat.Bytes(limbs(power(512, 1))), []byte{1}, false, nat.Bytes(limbs(power(511, 0))))
	f.Fuzz(func(t *testing.T, num []byte, neg bool, den, other []byte, below bool, under []byte) {
		x, y := new(big.Int).SetBytes(num), new(big.Int).SetBytes(other)
		raws := []api.Frac{{Num: api.Int{Neg: neg, Mag: limbs(x)}, Den: limbs(new(big.Int).SetBytes(den))}, {Num: api.Int{Neg: below, Mag: limbs(y)}, Den: limbs(new(big.Int).SetBytes(under))}}
		all := slices.Clone(raws)
		for _, a := range raws {
			checkMake(t, a.Num, a.Den)
			if made, err := Make(a.Num, a.Den); err == api.OK {
				all = append(all, made)
			}
		}
		for _, a := range all {
			if Right(a) != mayFrac(a) {
				t.Error("Right:", a)
			}
			checkFloor(t, a)
			for _, b := range all {
				checkCmp(t, a, b)
				for _, c := range calls() {
					c.check(t, a, b)
				}
			}
		}
	})
}
