package fixenc

import (
	"math"
	"slices"
	"testing"

	"windbreak/api"
	"windbreak/nat"
)

// answers are the lists that are told of a modulus, a whole number, a rest and a pair, each call's error and small answers with them.
func answers(n api.Nat, x api.Int, v api.Nat, shift int, g, h int64) []api.Nat {
	var l []api.Nat
	keep := func(a api.Nat, more ...uint64) { l = append(l, a, more) }
	code, err := Encode(n, x)
	keep(code, uint64(err))
	y, err := Decode(n, v)
	neg := uint64(0)
	if y.Neg {
		neg = 1
	}
	keep(y.Mag, uint64(err), neg)
	pack, err := Pack(n, shift, g, h)
	keep(pack, uint64(err))
	a, b, err := Unpack(n, shift, v)
	keep(nil, uint64(err), uint64(a), uint64(b))
	room, err := Room(n, g, h, int64(shift))
	keep(nil, uint64(err), uint64(room))
	return l
}

// spoil overwrites all that a list could reach, behind its end too.
func spoil(a api.Nat) {
	for i := range a[:cap(a)] {
		a[:cap(a)][i] ^= 0x5555555555555555
	}
}

func sameLists(x, y []api.Nat) bool {
	return slices.EqualFunc(x, y, func(a, b api.Nat) bool { return slices.Equal(a, b) })
}

// allModuli, allWholes and allRests are arguments of all kinds, those that may not be too.
func allModuli() []api.Nat { return append(moduli(), wrongModuli()...) }

func allWholes(n api.Nat) []api.Int {
	if !mayModulus(n) {
		return wrongWholes()
	}
	return append(wholesBy(n), wrongWholes()...)
}

func allRests(n api.Nat) []api.Nat {
	if !mayModulus(n) {
		return wrongLimbs()
	}
	return append(restsBy(n), wrongLimbs()...)
}

// R1, P1: at all arguments each call ends without a panic, and answers as another reckoning does, nothing beside an error.
func TestAllArguments(t *testing.T) {
	for _, n := range allModuli() {
		for _, x := range allWholes(n) {
			checkEncode(t, n, x)
		}
		for _, v := range allRests(n) {
			checkDecode(t, n, v)
			for _, shift := range append(wrongShifts(), shifts()...) {
				checkUnpack(t, n, shift, v)
			}
		}
		for _, shift := range append(wrongShifts(), 1, 2, 31, 61, 62) {
			for _, g := range smalls() {
				for _, h := range smalls() {
					checkPack(t, n, shift, g, h)
				}
			}
		}
	}
	for _, n := range wrongModuli() {
		for _, rows := range smalls() {
			for _, most := range smalls() {
				checkRoom(t, n, rows, most, 1)
				checkRoom(t, n, 1, rows, most)
			}
		}
	}
}

// R1: where several errors apply, the one that is named first.
func TestFirstError(t *testing.T) {
	huge := parts(number(filled(64, top)))
	for _, c := range []struct {
		what string
		err  api.Errno
		ask  func() api.Errno
	}{
		{"Encode: n, and beyond the half", api.ErrArg, func() api.Errno { _, err := Encode(api.Nat{2}, huge); return err }},
		{"Encode: x, which would be beyond the half", api.ErrArg, func() api.Errno { _, err := Encode(api.Nat{3}, api.Int{Mag: filled(65, 1)}); return err }},
		{"Decode: n, and v", api.ErrArg, func() api.Errno { _, err := Decode(api.Nat{2}, api.Nat{0}); return err }},
		{"Pack: n, and h", api.ErrArg, func() api.Errno { _, err := Pack(api.Nat{2}, 3, 1, -1); return err }},
		{"Pack: the shift, and h", api.ErrArg, func() api.Errno { _, err := Pack(api.Nat{3}, 0, 1, -1); return err }},
		{"Pack: the shift, and the half", api.ErrArg, func() api.Errno { _, err := Pack(api.Nat{3}, 63, math.MaxInt64, 1); return err }},
		{"Unpack: n, and v", api.ErrArg, func() api.Errno { _, _, err := Unpack(api.Nat{2}, 3, api.Nat{0}); return err }},
		{"Unpack: the shift, and v", api.ErrArg, func() api.Errno { _, _, err := Unpack(api.Nat{3}, 0, api.Nat{3}); return err }},
		{"Unpack: v, and g", api.ErrPlain, func() api.Errno { _, _, err := Unpack(filled(8, top), 1, filled(8, top)); return err }},
		{"Room: n, and none", api.ErrArg, func() api.Errno { _, err := Room(api.Nat{2}, math.MaxInt64, 1, 1); return err }},
		{"Room: most, and the shift", api.ErrArg, func() api.Errno { _, err := Room(api.Nat{3}, math.MaxInt64, 0, math.MaxInt64); return err }},
		{"Room: weight, and the half", api.ErrArg, func() api.Errno { _, err := Room(api.Nat{3}, math.MaxInt64, math.MaxInt64, 0); return err }},
	} {
		if err := c.ask(); err != c.err {
			t.Error(c.what, err, "asked:", c.err)
		}
	}
}

// R2: nil and empty are the same, handed in.
func TestNilAndEmpty(t *testing.T) {
	for _, n := range append(allModuli(), nil) {
		for _, v := range []api.Nat{nil, {1}, {0}} {
			none, empty := answers(n, api.Int{}, nil, 3, 1, 1), answers(n, api.Int{Mag: api.Nat{}}, api.Nat{}, 3, 1, 1)
			if !sameLists(none, empty) {
				t.Error("nil and empty:", n)
			}
			if !sameLists(answers(nil, api.Int{Mag: v}, v, 3, 1, 1), answers(api.Nat{}, api.Int{Mag: v}, v, 3, 1, 1)) {
				t.Error("nil and empty moduli:", v)
			}
		}
	}
	if v, err := Encode(api.Nat{3}, api.Int{Neg: true, Mag: api.Nat{}}); err != api.ErrArg || v != nil {
		t.Error("0 that is below 0:", v, err)
	}
}

// R3: what is handed in stays as it is, behind its end too.
func TestHandedInStays(t *testing.T) {
	for _, n := range allModuli() {
		for _, x := range allWholes(n) {
			for _, v := range allRests(n) {
				want := []api.Nat{append(slices.Clone(n), 9, 8), append(slices.Clone(x.Mag), 11, 12), append(slices.Clone(v), 13, 14)}
				given := []api.Nat{slices.Clone(want[0]), slices.Clone(want[1]), slices.Clone(want[2])}
				answers(given[0][:len(n)], api.Int{Neg: x.Neg, Mag: given[1][:len(x.Mag)]}, given[2][:len(v)], 3, 5, 2)
				if !sameLists(given, want) {
					t.Fatal("changed:", n, x, v)
				}
			}
		}
	}
}

// R3, R4: what is told is the caller's own: neither what was handed in, nor another answer, nor a later one hangs on it.
func TestToldIsOwn(t *testing.T) {
	for _, n := range moduli() {
		for _, x := range wholesBy(n) {
			for _, v := range restsBy(n) {
				m, y, w := slices.Clone(n), api.Int{Neg: x.Neg, Mag: slices.Clone(x.Mag)}, slices.Clone(v)
				want, got := answers(n, x, v, 3, 0, 1), answers(m, y, w, 3, 0, 1)
				for i := range got {
					spoil(got[i])
					if !sameLists(got[i+1:], want[i+1:]) {
						t.Fatal("answers share memory:", n, x, v)
					}
				}
				if !slices.Equal(m, n) || !slices.Equal(y.Mag, x.Mag) || !slices.Equal(w, v) || !sameLists(answers(m, y, w, 3, 0, 1), want) {
					t.Fatal("an answer shares memory with what was handed in, or with a later one:", n, x, v)
				}
			}
		}
	}
}

// R3: one list that is handed in twice is no other than two.
func TestHandedInTwice(t *testing.T) {
	for _, n := range allModuli() {
		if !sameLists(answers(n, api.Int{Mag: n}, n, 3, 5, 2), answers(n, api.Int{Mag: slices.Clone(n)}, slices.Clone(n), 3, 5, 2)) {
			t.Error("handed in twice:", n)
		}
	}
}

// R4: what is told hangs on what is handed in alone, not on what was asked before, nor of which modulus.
func TestNothingKept(t *testing.T) {
	play := func(between func()) []api.Nat {
		var l []api.Nat
		for _, n := range moduli() {
			for _, v := range restsBy(n) {
				l = append(l, answers(n, api.Int{Mag: v}, v, 3, 5, 2)...)
				between()
			}
		}
		return l
	}
	between := func() { answers(api.Nat{17947}, api.Int{Neg: true, Mag: api.Nat{7}}, api.Nat{9000}, 62, -1, 3) }
	if !sameLists(play(func() {}), play(between)) {
		t.Error("an answer hangs on others")
	}
}

// FuzzCodes looks for arguments at which a call panics, or tells something else than another reckoning.
func FuzzCodes(f *testing.F) {
	f.Add([]byte{101}, []byte{1}, true, 3, int64(-5), int64(2), int64(1))
	f.Add([]byte{0x46, 0x1b}, []byte{0x45, 0xf5}, false, 3, int64(10), int64(50), int64(1))
	f.Add(nat.Bytes(filled(8, top)), nat.Bytes(filled(8, 1)), true, 62, int64(math.MaxInt64), int64(1<<62-1), int64(math.MaxInt64))
	f.Fuzz(func(t *testing.T, n, a []byte, neg bool, shift int, g, h, k int64) {
		m, _ := nat.Read(n)
		v, _ := nat.Read(a)
		checkEncode(t, m, api.Int{Neg: neg, Mag: v})
		checkDecode(t, m, v)
		checkPack(t, m, shift, g, h)
		checkPack(t, m, shift&63, g, h&(1<<(shift&63)-1))
		checkUnpack(t, m, shift, v)
		checkUnpack(t, m, shift&63, v)
		checkRoom(t, m, g, h, k)
	})
}
