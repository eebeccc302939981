package fixenc

import (
	"math/big"
	"testing"

	"windbreak/api"
	"windbreak/modint"
	"windbreak/nat"
)

// P7.1: Encode and Decode about the edges of many moduli, by another reckoning.
func TestCodes(t *testing.T) {
	for _, n := range moduli() {
		for _, x := range wholesBy(n) {
			checkEncode(t, n, x)
		}
		for _, v := range restsBy(n) {
			checkDecode(t, n, v)
		}
	}
}

// P7.1: all whole numbers and all rests of the least moduli.
func TestLeastModuli(t *testing.T) {
	for n := uint64(3); n <= 60; n++ {
		for x := int64(-70); x <= 70; x++ {
			checkEncode(t, api.Nat{n}, modint.Of(x))
		}
		for v := range uint64(70) {
			checkDecode(t, api.Nat{n}, nat.Of(v))
		}
	}
}

// P7.1: of moduli of 3 and 4 the half is 1, written out.
func TestThreeAndFour(t *testing.T) {
	for _, c := range []struct {
		n    uint64
		x    int64
		want uint64
		err  api.Errno
	}{
		{3, 0, 0, api.OK}, {3, 1, 1, api.OK}, {3, -1, 2, api.OK}, {3, 2, 0, api.ErrRoom}, {3, -2, 0, api.ErrRoom},
		{4, 0, 0, api.OK}, {4, 1, 1, api.OK}, {4, -1, 3, api.OK}, {4, 2, 0, api.ErrRoom}, {4, -2, 0, api.ErrRoom},
		{5, 2, 2, api.OK}, {5, -2, 3, api.OK}, {5, 3, 0, api.ErrRoom}, {5, -3, 0, api.ErrRoom},
	} {
		v, err := Encode(api.Nat{c.n}, modint.Of(c.x))
		got, _ := nat.Small(v)
		if err != c.err || got != c.want {
			t.Error(c, v, err)
		}
	}
	// What is above the half of an even modulus is below 0, though Encode refuses it.
	for _, c := range [][3]int64{{3, 0, 0}, {3, 1, 1}, {3, 2, -1}, {4, 0, 0}, {4, 1, 1}, {4, 2, -2}, {4, 3, -1}} {
		x, err := Decode(nat.Of(uint64(c[0])), nat.Of(uint64(c[1])))
		if got, ok := modint.Small(x); err != api.OK || !ok || got != c[2] {
			t.Error(c, x, err)
		}
	}
}

// P7.1: the half is encoded and decoded with either sign; one more is refused, and Decode takes it as one below 0.
func TestAboutTheHalf(t *testing.T) {
	encoded, decoded := must[api.Nat](t), must[api.Int](t)
	for _, n := range moduli() {
		half, v := halfOf(n), number(n)
		if got := encoded(Encode(n, parts(half))); number(got).Cmp(half) != 0 {
			t.Error("the half of", n, got)
		}
		if got := encoded(Encode(n, parts(opposite(half)))); number(got).Cmp(new(big.Int).Sub(v, half)) != 0 {
			t.Error("the half below 0 of", n, got)
		}
		for _, x := range []*big.Int{more(half, 1), opposite(more(half, 1))} {
			if got, err := Encode(n, parts(x)); err != api.ErrRoom || got != nil {
				t.Error("beyond the half of", n, x, got, err)
			}
		}
		if got := decoded(Decode(n, limbs(half))); whole(got).Cmp(half) != 0 {
			t.Error("the half is decoded as", got, "of", n)
		}
		beyond := more(half, 1)
		if got := decoded(Decode(n, limbs(beyond))); !got.Neg || whole(got).Cmp(new(big.Int).Sub(beyond, v)) != 0 {
			t.Error("the half and 1 is decoded as", got, "of", n)
		}
		if got := decoded(Decode(n, limbs(more(v, -1)))); whole(got).Cmp(big.NewInt(-1)) != 0 {
			t.Error("n less 1 is decoded as", got, "of", n)
		}
	}
}

// P7.1: 0 is encoded and decoded as 0, which is not below 0.
func TestNought(t *testing.T) {
	for _, n := range moduli() {
		if v, err := Encode(n, modint.Of(0)); err != api.OK || len(v) != 0 {
			t.Error("0 of", n, v, err)
		}
		if x, err := Decode(n, nil); err != api.OK || x.Neg || len(x.Mag) != 0 {
			t.Error("0 is decoded of", n, x, err)
		}
	}
}

// P7.1: n itself and more, and limbs that may not be a number, are no rests.
func TestNoRests(t *testing.T) {
	for _, n := range moduli() {
		v := number(n)
		l := []api.Nat{n, limbs(more(v, 1)), limbs(new(big.Int).Add(v, v)), append(filled(len(n), 0), 1), filled(64, top)}
		for _, w := range append(l, wrongLimbs()...) {
			if x, err := Decode(n, w); err != api.ErrPlain || x.Neg || x.Mag != nil {
				t.Error("Decode:", n, w, x, err)
			}
			if g, h, err := Unpack(n, 1, w); err != api.ErrPlain || g != 0 || h != 0 {
				t.Error("Unpack:", n, w, g, h, err)
			}
		}
	}
}

// P7.1: whole numbers that may not be.
func TestWrongWholes(t *testing.T) {
	for _, n := range append(moduli(), wrongModuli()...) {
		for _, x := range wrongWholes() {
			if v, err := Encode(n, x); err != api.ErrArg || v != nil {
				t.Error("Encode:", n, x, v, err)
			}
		}
	}
}

// P7.1, P7.2, P7.3: a modulus that may not be is ErrArg ahead of all else.
func TestWrongModuli(t *testing.T) {
	for _, n := range wrongModuli() {
		for _, x := range append(wrongWholes(), modint.Of(0), modint.Of(1), modint.Of(-1), parts(number(filled(64, top)))) {
			if v, err := Encode(n, x); err != api.ErrArg || v != nil {
				t.Error("Encode:", n, x, v, err)
			}
		}
		for _, v := range append(wrongLimbs(), nil, api.Nat{1}, api.Nat{3}, filled(64, top), n) {
			if x, err := Decode(n, v); err != api.ErrArg || x.Neg || x.Mag != nil {
				t.Error("Decode:", n, v, x, err)
			}
			for _, shift := range append(wrongShifts(), 1, 3, 62) {
				if g, h, err := Unpack(n, shift, v); err != api.ErrArg || g != 0 || h != 0 {
					t.Error("Unpack:", n, shift, v, g, h, err)
				}
			}
		}
		for _, shift := range append(wrongShifts(), 1, 3, 62) {
			for _, h := range []int64{-1, 0, 1, 1 << 62, 1<<63 - 1} {
				if v, err := Pack(n, shift, 0, h); err != api.ErrArg || v != nil {
					t.Error("Pack:", n, shift, h, v, err)
				}
			}
		}
		for _, k := range smalls() {
			if s, err := Room(n, k, k, k); err != api.ErrArg || s != 0 {
				t.Error("Room:", n, k, s, err)
			}
		}
	}
}

// P7.1: 8 limbs may be, 9 may not; 3 may be, 2 may not.
func TestWhichModuliMayBe(t *testing.T) {
	for _, n := range moduli() {
		if _, err := Encode(n, modint.Of(1)); err != api.OK {
			t.Error("a modulus:", n, err)
		}
	}
	most := number(filled(8, top))
	for _, c := range []struct {
		n   api.Nat
		err api.Errno
	}{
		{nil, api.ErrArg}, {api.Nat{1}, api.ErrArg}, {api.Nat{2}, api.ErrArg}, {api.Nat{3}, api.OK}, {api.Nat{4}, api.OK},
		{limbs(most), api.OK}, {limbs(more(most, 1)), api.ErrArg}, {append(filled(7, 0), 1), api.OK}, {append(filled(8, 0), 1), api.ErrArg}, {append(filled(7, 1), 0), api.ErrArg},
	} {
		if _, err := Decode(c.n, nil); err != c.err {
			t.Error("Decode by", c.n, err, "asked:", c.err)
		}
		if _, err := Encode(c.n, modint.Of(0)); err != c.err {
			t.Error("Encode by", c.n, err, "asked:", c.err)
		}
		if _, err := Pack(c.n, 1, 0, 0); err != c.err {
			t.Error("Pack by", c.n, err, "asked:", c.err)
		}
		if _, _, err := Unpack(c.n, 1, nil); err != c.err {
			t.Error("Unpack by", c.n, err, "asked:", c.err)
		}
	}
}
