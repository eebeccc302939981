package nat

import (
	"math"
	"math/big"
	"testing"

	"windbreak/api"
)

// moves are by 0, by limbs and parts of them, to the edge and beyond it.
func moves() []int {
	return []int{0, 1, 2, 31, 63, 64, 65, 127, 128, 129, 1000, 2048, 4031, 4032, 4094, 4095, 4096, 4097, 5000, 1 << 20}
}

// P1.3: moves up, by another reckoning.
func TestShl(t *testing.T) {
	for _, a := range samples() {
		for _, n := range moves() {
			s, err := Shl(a, n)
			checkNat(t, "moved up", s, err, new(big.Int).Lsh(toBig(a), uint(n)))
		}
	}
}

// P1.3: moves down, by another reckoning.
func TestShr(t *testing.T) {
	for _, a := range samples() {
		for _, n := range moves() {
			s, err := Shr(a, n)
			checkNat(t, "moved down", s, err, new(big.Int).Rsh(toBig(a), uint(n)))
		}
	}
}

// P1.3: the last move up that fits, and moves by very much, where 0 is 0 still.
func TestMovesByMuch(t *testing.T) {
	if s, err := Shl(api.Nat{1}, 64); err != api.OK || !same(s, api.Nat{0, 1}) {
		t.Error("1 by 64:", s, err)
	}
	if s, err := Shl(api.Nat{1}, 4095); err != api.OK || !same(s, power(4095)) {
		t.Error("1 by 4095:", err)
	}
	if s, err := Shl(api.Nat{3}, 4095); err != api.ErrNatLong || s != nil {
		t.Error("3 by 4095:", s, err)
	}
	for _, n := range []int{4096, math.MaxInt - 4096, math.MaxInt - 1, math.MaxInt} {
		for _, a := range []api.Nat{{1}, {top}, filled(64, top)} {
			if s, err := Shl(a, n); err != api.ErrNatLong || s != nil {
				t.Error("up by", n, s, err)
			}
			if s, err := Shr(a, n); err != api.OK || len(s) != 0 {
				t.Error("down by", n, s, err)
			}
		}
		if s, err := Shl(nil, n); err != api.OK || len(s) != 0 {
			t.Error("0 up by", n, s, err)
		}
		if s, err := Shr(nil, n); err != api.OK || len(s) != 0 {
			t.Error("0 down by", n, s, err)
		}
	}
}

// P1.3: moves by less than 0, of 0 too; and numbers that may not be, ahead of ErrNatLong.
func TestMovesOfWrong(t *testing.T) {
	for _, n := range []int{-1, -64, math.MinInt} {
		for _, a := range []api.Nat{nil, {1}, filled(64, top), {0}} {
			if s, err := Shl(a, n); err != api.ErrArg || s != nil {
				t.Error("up by", n, s, err)
			}
			if s, err := Shr(a, n); err != api.ErrArg || s != nil {
				t.Error("down by", n, s, err)
			}
		}
	}
	for _, w := range wrong() {
		for _, n := range []int{0, 1, 64, math.MaxInt} {
			if s, err := Shl(w, n); err != api.ErrArg || s != nil {
				t.Error("up:", w, n, s, err)
			}
			if s, err := Shr(w, n); err != api.ErrArg || s != nil {
				t.Error("down:", w, n, s, err)
			}
		}
	}
}

// P1.3: how many bits a number has.
func TestBits(t *testing.T) {
	for _, a := range samples() {
		if got, want := Bits(a), toBig(a).BitLen(); got != want {
			t.Error(a, got, want)
		}
	}
	for n := range 4096 {
		if got := Bits(power(n)); got != n+1 {
			t.Error("2 to the power of", n, "has", got)
		}
	}
	if Bits(nil) != 0 || Bits(api.Nat{1}) != 1 || Bits(filled(64, top)) != 4096 {
		t.Error("0, 1 and the greatest number")
	}
	for _, w := range wrong() {
		if Bits(w) != 0 {
			t.Error("of what may not be:", w, Bits(w))
		}
	}
}

// P1.3: each bit, and those that are none.
func TestBit(t *testing.T) {
	for _, a := range samples() {
		v := toBig(a)
		for i := range 4200 {
			if got, want := Bit(a, i), v.Bit(i) == 1; got != want {
				t.Fatal(a, i, got, want)
			}
		}
		for _, i := range []int{-1, -64, math.MinInt, math.MaxInt} {
			if Bit(a, i) {
				t.Error("a bit at", i)
			}
		}
	}
	for _, w := range wrong() {
		for _, i := range []int{0, 1, 63, 64, -1, math.MaxInt} {
			if Bit(w, i) {
				t.Error("of what may not be:", w, i)
			}
		}
	}
}
