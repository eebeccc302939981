package fixenc

import (
	"math"
	"math/big"
	"testing"

	"windbreak/api"
)

// P7.2: Pack of the edges of g and h by many moduli and each shift, by another reckoning.
func TestPacks(t *testing.T) {
	for _, n := range moduli() {
		for _, shift := range shifts() {
			room := int64(1) << shift
			for _, g := range smalls() {
				for _, h := range []int64{math.MinInt64, -1, 0, 1, room / 2, room - 1, room, math.MaxInt64} {
					checkPack(t, n, shift, g, h)
				}
			}
		}
	}
}

// P7.2: Unpack about the edges of many moduli by each shift, by another reckoning.
func TestUnpacks(t *testing.T) {
	for _, n := range moduli() {
		for _, shift := range shifts() {
			for _, v := range restsBy(n) {
				checkUnpack(t, n, shift, v)
			}
		}
	}
}

// P7.2: all pairs and all rests of small moduli.
func TestSmallPacks(t *testing.T) {
	for _, n := range []uint64{3, 4, 5, 100, 101, 128, 255} {
		for shift := 1; shift <= 9; shift++ {
			for g := int64(-20); g <= 20; g++ {
				for h := int64(-2); h <= 20; h++ {
					checkPack(t, api.Nat{n}, shift, g, h)
				}
			}
			for v := range n + 5 {
				checkUnpack(t, api.Nat{n}, shift, limbs(new(big.Int).SetUint64(v)))
			}
		}
	}
}

// wide is a modulus by which all pairs are packed.
func wide() api.Nat { return limbs(more(big2(200), 9)) }

// P7.2: h of -1 and of 2^shift is refused, 0 and 2^shift less 1 are packed, of each shift.
func TestEdgesOfH(t *testing.T) {
	for _, shift := range shifts() {
		room := int64(1) << shift
		for _, g := range []int64{math.MinInt64, -1, 0, 1, math.MaxInt64} {
			for _, h := range []int64{-1, room, math.MinInt64, math.MaxInt64} {
				if v, err := Pack(wide(), shift, g, h); err != api.ErrRoom || v != nil {
					t.Error("refused:", shift, g, h, v, err)
				}
			}
			for _, h := range []int64{0, room - 1} {
				v, err := Pack(wide(), shift, g, h)
				want := new(big.Int).Mod(put(shift, big.NewInt(g), big.NewInt(h)), number(wide()))
				if err != api.OK || number(v).Cmp(want) != 0 {
					t.Error("packed:", shift, g, h, v, err)
				}
			}
		}
	}
}

// P7.2: a pair is packed if the modulus' half is just enough, and refused if it is one too small.
func TestHalfForPack(t *testing.T) {
	for _, shift := range []int{1, 2, 3, 31, 61, 62} {
		for _, g := range smalls() {
			for _, h := range []int64{0, 1, 1<<shift - 1} {
				size := new(big.Int).Abs(put(shift, big.NewInt(g), big.NewInt(h)))
				if size.Cmp(big.NewInt(2)) < 0 {
					continue // no modulus has a half below that
				}
				twice := new(big.Int).Lsh(size, 1)
				for by, fails := range map[int64]api.Errno{-1: api.ErrRoom, 0: api.ErrRoom, 1: api.OK, 2: api.OK} {
					n := limbs(more(twice, by))
					if _, err := Pack(n, shift, g, h); err != fails {
						t.Error("Pack:", n, shift, g, h, err, "asked:", fails)
					}
					checkPack(t, n, shift, g, h)
				}
			}
		}
	}
}

// P7.2: shifts that may not be, ahead of ErrRoom and ErrPlain.
func TestWrongShifts(t *testing.T) {
	for _, n := range moduli() {
		for _, shift := range wrongShifts() {
			for _, h := range []int64{math.MinInt64, -1, 0, 1, math.MaxInt64} {
				if v, err := Pack(n, shift, math.MaxInt64, h); err != api.ErrArg || v != nil {
					t.Error("Pack:", n, shift, h, v, err)
				}
			}
			for _, v := range append(wrongLimbs(), nil, api.Nat{1}, n, filled(64, top)) {
				if g, h, err := Unpack(n, shift, v); err != api.ErrArg || g != 0 || h != 0 {
					t.Error("Unpack:", n, shift, v, g, h, err)
				}
			}
		}
	}
}

// P7.2: the least shift and the greatest one.
func TestEdgesOfShift(t *testing.T) {
	for _, c := range []struct {
		shift int
		g, h  int64
		err   api.Errno
	}{
		{1, 7, 0, api.OK}, {1, 7, 1, api.OK}, {1, -7, 1, api.OK}, {1, 7, 2, api.ErrRoom},
		{62, 7, 0, api.OK}, {62, -7, 1<<62 - 1, api.OK}, {62, 7, 1 << 62, api.ErrRoom},
		{0, 7, 0, api.ErrArg}, {63, 7, 0, api.ErrArg}, {-1, 7, 0, api.ErrArg},
	} {
		v, err := Pack(wide(), c.shift, c.g, c.h)
		if err != c.err {
			t.Error("Pack:", c, err)
		}
		if err != api.OK {
			continue
		}
		if g, h, err := Unpack(wide(), c.shift, v); err != api.OK || g != c.g || h != c.h {
			t.Error("Unpack:", c, g, h, err)
		}
	}
}

// P7.2: g is told if it is just -2^63 or 2^63 - 1, and is ErrRoom one beyond.
func TestEdgesOfG(t *testing.T) {
	for _, shift := range shifts() {
		room := big2(shift)
		least, beyond := opposite(new(big.Int).Lsh(room, 63)), new(big.Int).Lsh(room, 63)
		for _, c := range []struct {
			x    *big.Int
			g, h int64
			err  api.Errno
		}{
			{least, math.MinInt64, 0, api.OK},
			{more(least, 1), math.MinInt64, 1, api.OK},
			{more(new(big.Int).Add(least, room), -1), math.MinInt64, 1<<shift - 1, api.OK},
			{more(least, -1), 0, 0, api.ErrRoom},
			{new(big.Int).Sub(least, room), 0, 0, api.ErrRoom},
			{new(big.Int).Sub(beyond, room), math.MaxInt64, 0, api.OK},
			{more(beyond, -1), math.MaxInt64, 1<<shift - 1, api.OK},
			{beyond, 0, 0, api.ErrRoom},
			{more(beyond, 1), 0, 0, api.ErrRoom},
			{new(big.Int).Lsh(beyond, 2), 0, 0, api.ErrRoom},
		} {
			v := limbs(new(big.Int).Mod(c.x, number(wide())))
			if g, h, err := Unpack(wide(), shift, v); err != c.err || g != c.g || h != c.h {
				t.Error("Unpack:", shift, c, g, h, err)
			}
		}
	}
}

// P7.2: below 0 the quotient is rounded down, so that the rest is never below 0.
func TestRoundedDown(t *testing.T) {
	for _, c := range []struct{ v, g, h int64 }{
		{0, 0, 0}, {1, 0, 1}, {7, 0, 7}, {8, 1, 0}, {17946, -1, 7}, {17940, -1, 1}, {17939, -1, 0}, {17938, -2, 7}, {8973, 1121, 5}, {8974, -1122, 3},
	} {
		if g, h, err := Unpack(api.Nat{17947}, 3, limbs(big.NewInt(c.v))); err != api.OK || g != c.g || h != c.h {
			t.Error("Unpack:", c, g, h, err)
		}
	}
}
