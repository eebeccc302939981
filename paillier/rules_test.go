package paillier

import (
	"math/big"
	"slices"
	"testing"

	"windbreak/api"
	"windbreak/nat"
	"windbreak/tape"
)

// answers are all that is told of a key, its public part and two numbers, each call's error with it; the draws are from the given bytes.
func answers(k api.Key, n, a, b api.Nat, script []byte) []api.Nat {
	var l []api.Nat
	keep := func(x api.Nat, err api.Errno) { l = append(l, x, api.Nat{uint64(err)}) }
	for _, c := range calls() {
		keep(c.ask(n, a, b))
	}
	x, _ := tape.New(script)
	keep(Draw(n, a, x))
	keep(Public(k))
	keep(Decrypt(k, a))
	return l
}

// spoil overwrites all that a list could reach, behind its end too.
func spoil(a api.Nat) {
	for i := range a[:cap(a)] {
		a[:cap(a)][i] ^= 0x5555555555555555
	}
}

func sameLists(x, y []api.Nat) bool {
	return slices.EqualFunc(x, y, func(a, b api.Nat) bool { return slices.Equal(a, b) })
}

// ruleKeys are few keys, as the rules are asked of all calls.
func ruleKeys() []api.Key {
	return []api.Key{keysOf(8)[0], keysOf(20)[2], keysOf(32)[1], keysOf(33)[2]}
}

// R1: with an error all else is the zero value, of whatever arguments.
func TestZeroBesideError(t *testing.T) {
	for _, k := range append(ruleKeys(), api.Key{P: 131, Q: 131}) {
		for _, n := range []api.Nat{of(k), more(of(k), 1)} {
			for _, a := range some(of(k)) {
				for _, b := range some(of(k)) {
					l := answers(k, n, a, b, bytesOf(1, 12))
					for i := 0; i < len(l); i += 2 {
						if l[i+1][0] != 0 && l[i] != nil {
							t.Error("call", i/2, k, n, a, b, l[i], l[i+1])
						}
					}
				}
			}
		}
	}
}

// R2: nil and empty are the same, handed in.
func TestNilAndEmpty(t *testing.T) {
	none := []api.Nat{nil, {}}
	for _, k := range ruleKeys() {
		n := of(k)
		for _, a := range some(n) {
			if !sameLists(answers(k, n, a, none[0], nil), answers(k, n, a, none[1], []byte{})) || !sameLists(answers(k, n, none[0], a, nil), answers(k, n, none[1], a, []byte{})) {
				t.Error("nil and empty:", a, n)
			}
			if !sameLists(answers(k, none[0], a, a, nil), answers(k, none[1], a, a, nil)) {
				t.Error("nil and empty public keys:", a)
			}
		}
		for _, x := range none {
			if May(x) || Valid(x, n) || Valid(n, x) || Valid(x, x) {
				t.Error("none:", n)
			}
		}
	}
}

// R3: what is handed in stays as it is, behind its end too.
func TestHandedInStays(t *testing.T) {
	for _, k := range ruleKeys() {
		n := of(k)
		for _, a := range some(n) {
			for _, b := range some(n) {
				given := []api.Nat{append(slices.Clone(n), 9, 8), append(slices.Clone(a), 11, 12), append(slices.Clone(b), 13, 14)}
				script := bytesOf(2, 30)
				x, y, z := given[0][:len(n)], given[1][:len(a)], given[2][:len(b)]
				answers(k, x, y, z, script[:20])
				May(y)
				Valid(x, y)
				if !sameLists(given, []api.Nat{append(slices.Clone(n), 9, 8), append(slices.Clone(a), 11, 12), append(slices.Clone(b), 13, 14)}) || !slices.Equal(script, bytesOf(2, 30)) {
					t.Fatal("changed:", a, b, n)
				}
			}
		}
	}
}

// R3, R4: what is told is the caller's own: neither what was handed in, nor another answer, nor a later one hangs on it.
func TestToldIsOwn(t *testing.T) {
	script := bytesOf(4, 60)
	for _, k := range ruleKeys() {
		n := of(k)
		for _, a := range some(n) {
			for _, b := range some(n)[:8] {
				m, x, y := slices.Clone(n), slices.Clone(a), slices.Clone(b)
				want := answers(k, n, a, b, script)
				got := answers(k, m, x, y, script)
				for i := range got {
					spoil(got[i])
					if !sameLists(got[i+1:], want[i+1:]) {
						t.Fatal("answers share memory:", a, b, n)
					}
				}
				if !slices.Equal(m, n) || !slices.Equal(x, a) || !slices.Equal(y, b) || !sameLists(answers(k, n, a, b, script), want) {
					t.Fatal("an answer shares memory with what was handed in, or with a later one:", a, b, n)
				}
			}
		}
	}
}

// R4: what is told hangs on what is handed in alone, not on what was asked before, nor of which key.
func TestNothingKept(t *testing.T) {
	script := bytesOf(5, 60)
	play := func(between func()) []api.Nat {
		var l []api.Nat
		for _, k := range ruleKeys() {
			n := of(k)
			l = append(l, answers(k, n, more(n, 1), api.Nat{1}, script)...)
			between()
			l = append(l, answers(k, n, api.Nat{2}, api.Nat{2}, script)...)
		}
		return l
	}
	other := keysOf(16)[2]
	if !sameLists(play(func() {}), play(func() { answers(other, of(other), api.Nat{2}, api.Nat{3}, bytesOf(6, 90)) })) {
		t.Error("an answer hangs on others")
	}
}

// R3: a tape's bytes are used, and no more than the draws take: the same tape goes on where it was.
func TestTapeGoesOn(t *testing.T) {
	n, all := api.Nat{17947}, bytesOf(7, 400)
	x := tapeOf(t, all...)
	for x.Left() > 100 {
		before := x.Left()
		c, err := Draw(n, api.Nat{5}, x)
		r, used, _ := hiderFrom(all[len(all)-before:], n)
		want, _ := Encrypt(n, api.Nat{5}, r)
		if err != api.OK || !slices.Equal(c, want) || before-x.Left() != used {
			t.Error("draw:", c, err, before, x.Left())
		}
	}
}

// P1: no call panics, at no argument; a tape that New did not make is one of no bytes.
func TestNoPanic(t *testing.T) {
	numbers := append(wrong(), nil, api.Nat{1}, api.Nat{17947}, api.Nat{17946}, twoTo(80, -1), twoTo(80, 1), filled(3, top), filled(64, top))
	for _, n := range numbers {
		May(n)
		for _, a := range numbers {
			Valid(n, a)
			for _, b := range numbers {
				for _, c := range calls() {
					c.check(t, n, a, b)
				}
			}
			Draw(n, a, nil)
			Draw(n, a, &tape.Tape{})
			for _, k := range wrongKeys() {
				Decrypt(k, a)
			}
		}
	}
	if c, err := Draw(api.Nat{17947}, api.Nat{5}, &tape.Tape{}); err != api.ErrTapeEnd || c != nil {
		t.Error("of a zero tape:", c, err)
	}
}

// FuzzHidden looks for arguments at which a call panics, or tells something else than another reckoning.
func FuzzHidden(f *testing.F) {
	f.Add([]byte{0x46, 0x1b}, []byte{5}, []byte{1}, []byte{0, 1}, uint64(131), uint64(137))
	f.Add(nat.Bytes(twoTo(80, -1)), nat.Bytes(twoTo(159, 1)), nat.Bytes(twoTo(79, 1)), []byte{}, uint64(1<<31-1), uint64(1073741827))
	f.Fuzz(func(t *testing.T, n, a, b, script []byte, p, q uint64) {
		m, _ := nat.Read(n)
		x, _ := nat.Read(a)
		y, _ := nat.Read(b)
		if May(m) != may(m) || Valid(m, x) != (may(m) && aCipher.fault(m, x) == api.OK) {
			t.Error("May, Valid:", m, x, May(m), Valid(m, x))
		}
		for _, c := range calls() {
			c.check(t, m, x, y)
		}
		if may(m) && aPlain.fault(m, x) == api.OK && len(script) <= api.MaxTape {
			checkDraws(t, script, m, x, 5)
		}
		k := api.Key{P: p, Q: q}
		if base, err := Public(k); err == api.OK {
			c := restBy(new(big.Int).SetBytes(a), squareOf(base))
			if Valid(base, c) {
				checkShown(t, k, c)
			}
		}
	})
}
