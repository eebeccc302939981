package fixenc

import (
	"math"
	"math/big"
	"testing"

	"windbreak/api"
)

// P7.3: Room of all the edges by many moduli, by another reckoning.
func TestRooms(t *testing.T) {
	for _, n := range append(moduli(), wide()) {
		for _, rows := range smalls() {
			for _, most := range smalls() {
				for _, weight := range smalls() {
					checkRoom(t, n, rows, most, weight)
				}
			}
		}
	}
}

// P7.3: all small numbers of rows, sizes and weights by small moduli.
func TestSmallRooms(t *testing.T) {
	for _, n := range []uint64{3, 4, 6, 7, 8, 9, 31, 32, 100, 1000, 17947} {
		for rows := int64(-1); rows <= 12; rows++ {
			for most := int64(-1); most <= 12; most++ {
				for weight := int64(-1); weight <= 12; weight++ {
					checkRoom(t, api.Nat{n}, rows, most, weight)
				}
			}
		}
	}
}

// P7.3: rows, most and weight of 0 and below, ahead of ErrRoom.
func TestNoRows(t *testing.T) {
	for _, n := range []api.Nat{{3}, {17947}, wide(), filled(8, top)} {
		for _, none := range []int64{0, -1, math.MinInt64} {
			for _, k := range []int64{1, 5, math.MaxInt64} {
				for _, c := range [][3]int64{{none, k, k}, {k, none, k}, {k, k, none}, {none, none, k}, {none, none, none}} {
					if s, err := Room(n, c[0], c[1], c[2]); err != api.ErrArg || s != 0 {
						t.Error("Room:", n, c, s, err)
					}
				}
			}
		}
	}
}

// P7.3: the least shift, of products of rows and weight about each power of 2: 1 of a product of 1, 62 below 2^62, none from there on, however great it is.
func TestLeastShift(t *testing.T) {
	for _, c := range []struct {
		rows, weight int64
		shift        int
		err          api.Errno
	}{
		{1, 1, 1, api.OK}, {1, 2, 2, api.OK}, {2, 1, 2, api.OK}, {3, 1, 2, api.OK}, {2, 2, 3, api.OK}, {7, 1, 3, api.OK}, {8, 1, 4, api.OK},
		{1, 1<<61 - 1, 61, api.OK}, {1, 1 << 61, 62, api.OK}, {1 << 30, 1 << 31, 62, api.OK}, {1, 1<<62 - 1, 62, api.OK}, {1<<62 - 1, 1, 62, api.OK}, {3, (1<<62 - 1) / 3, 62, api.OK}, {1<<31 - 1, 1<<31 + 1, 62, api.OK},
		{1, 1 << 62, 0, api.ErrRoom}, {1 << 62, 1, 0, api.ErrRoom}, {1 << 31, 1 << 31, 0, api.ErrRoom}, {2, 1 << 61, 0, api.ErrRoom}, {1, math.MaxInt64, 0, api.ErrRoom}, {math.MaxInt64, 1, 0, api.ErrRoom},
		{1 << 32, 1 << 32, 0, api.ErrRoom}, {1 << 62, 4, 0, api.ErrRoom}, {1<<62 + 1, 4, 0, api.ErrRoom}, {math.MaxInt64, math.MaxInt64, 0, api.ErrRoom},
	} {
		for _, most := range []int64{1, 1 << 20, math.MaxInt64} {
			if s, err := Room(wide(), c.rows, most, c.weight); err != c.err || s != c.shift {
				t.Error("Room:", c, most, s, err)
			}
		}
	}
}

// P7.3: the modulus' half is just enough, or one too small, of even moduli and of odd ones.
func TestHalfForRoom(t *testing.T) {
	for _, c := range [][3]int64{
		{1, 1, 1}, {1, 2, 1}, {2, 1, 1}, {1, 1, 2}, {10, 50, 1}, {256, 1 << 20, 1}, {7, 9, 11}, {1, math.MaxInt64, 1}, {1 << 20, 1 << 40, 1 << 10}, {1 << 31, 1 << 31, 1}, {1 << 32, 1 << 32, 1 << 20},
		{1<<62 - 1, math.MaxInt64, 1}, {1, math.MaxInt64, 1<<62 - 1}, {1, 1, 1<<62 - 1}, {1 << 30, math.MaxInt64, 1 << 31},
	} {
		shift := new(big.Int).Mul(big.NewInt(c[0]), big.NewInt(c[2])).BitLen()
		twice := new(big.Int).Lsh(farthestOf(shift, c[0], c[1]), 1)
		for by, fails := range map[int64]api.Errno{-1: api.ErrRoom, 0: api.ErrRoom, 1: api.OK, 2: api.OK} {
			s, err := Room(limbs(more(twice, by)), c[0], c[1], c[2])
			if err != fails || fails == api.OK && s != shift || fails != api.OK && s != 0 {
				t.Error("Room:", c, by, s, err, "asked:", shift, fails)
			}
		}
	}
}

// P7.3: the shift is the least one, though a greater one had room too; and a lesser one would have had room where the least one has none.
func TestNoOtherShift(t *testing.T) {
	if s, err := Room(filled(8, top), 1, 1, 1); err != api.OK || s != 1 {
		t.Error("the least shift:", s, err)
	}
	// 4 rows of weight 1 ask for the shift 3: 4 times 8 and 7 is 39; by the shift 2 it would be 19.
	for n, fails := range map[uint64]api.Errno{39: api.ErrRoom, 78: api.ErrRoom, 79: api.OK, 80: api.OK} {
		if _, err := Room(api.Nat{n}, 4, 1, 1); err != fails {
			t.Error("of", n, err)
		}
	}
}
