package nat

import (
	"math/big"
	"testing"

	"windbreak/api"
)

// P1.2: sums, by another reckoning.
func TestAdd(t *testing.T) {
	for _, a := range samples() {
		for _, b := range samples() {
			s, err := Add(a, b)
			checkNat(t, "a sum", s, err, new(big.Int).Add(toBig(a), toBig(b)))
		}
	}
}

// P1.2: the last sum that fits, and the first that does not.
func TestAddEdges(t *testing.T) {
	greatest := filled(64, top)
	if s, err := Add(greatest, nil); err != api.OK || !same(s, greatest) {
		t.Error("the greatest number and 0:", err)
	}
	if s, err := Add(greatest, api.Nat{1}); err != api.ErrNatLong || s != nil {
		t.Error("the greatest number and 1:", s, err)
	}
	if s, err := Add(filled(63, top), api.Nat{1}); err != api.OK || !same(s, power(63*64)) {
		t.Error("a carry through 63 limbs:", s, err)
	}
	if s, err := Add(api.Nat{top}, api.Nat{1}); err != api.OK || !same(s, api.Nat{0, 1}) {
		t.Error("the greatest limb and 1:", s, err)
	}
}

// P1.2: differences, by another reckoning.
func TestSub(t *testing.T) {
	for _, a := range samples() {
		for _, b := range samples() {
			d, err := Sub(a, b)
			if want := new(big.Int).Sub(toBig(a), toBig(b)); want.Sign() >= 0 {
				checkNat(t, "a difference", d, err, want)
			} else if err != api.ErrNatLess || d != nil {
				t.Error("below 0:", a, b, d, err)
			}
		}
	}
}

// P1.2: a borrow through many limbs, all of them gone, and one too many.
func TestSubEdges(t *testing.T) {
	if d, err := Sub(power(63*64), api.Nat{1}); err != api.OK || !same(d, filled(63, top)) {
		t.Error("a borrow through 63 limbs:", d, err)
	}
	if d, err := Sub(filled(64, top), filled(64, top)); err != api.OK || len(d) != 0 {
		t.Error("nothing left:", d, err)
	}
	if _, err := Sub(api.Nat{1}, api.Nat{2}); err != api.ErrNatLess {
		t.Error("1 less 2:", err)
	}
	if _, err := Sub(nil, api.Nat{1}); err != api.ErrNatLess {
		t.Error("0 less 1:", err)
	}
}

// ErrArg goes ahead of ErrNatLess and ErrNatLong.
func TestSumsOfWrong(t *testing.T) {
	for _, w := range wrong() {
		for _, a := range []api.Nat{nil, {5}, {0}, filled(64, top)} {
			for _, pair := range [][2]api.Nat{{w, a}, {a, w}} {
				if s, err := Add(pair[0], pair[1]); err != api.ErrArg || s != nil {
					t.Error("a sum:", pair, s, err)
				}
				if d, err := Sub(pair[0], pair[1]); err != api.ErrArg || d != nil {
					t.Error("a difference:", pair, d, err)
				}
			}
		}
	}
}
