package nat

import (
	"math/big"
	"math/rand/v2"
	"testing"

	"windbreak/api"
)

// checkDiv asks of a quotient and its rest what another reckoning tells.
func checkDiv(t *testing.T, a, b api.Nat) {
	t.Helper()
	q, rest, err := Div(a, b)
	if len(b) == 0 {
		if err != api.ErrNatZero || q != nil || rest != nil {
			t.Error("by 0:", a, q, rest, err)
		}
		return
	}
	wantQ, wantRest := new(big.Int).QuoRem(toBig(a), toBig(b), new(big.Int))
	checkNat(t, "a quotient", q, err, wantQ)
	checkNat(t, "a rest", rest, err, wantRest)
	if Cmp(rest, b) >= 0 {
		t.Error("a rest that is not below:", rest, b)
	}
}

// P1.2: quotients and rests, by another reckoning.
func TestDiv(t *testing.T) {
	for _, a := range samples() {
		for _, b := range samples() {
			checkDiv(t, a, b)
		}
	}
}

// P1.2: all pairs of lengths; and numbers just at, below and above a multiple.
func TestDivLengths(t *testing.T) {
	r := rand.New(rand.NewPCG(4, 4))
	for n := 1; n <= api.MaxLimbs; n++ {
		for m := 1; m <= api.MaxLimbs; m++ {
			b := drawn(r, m)
			checkDiv(t, drawn(r, n), b)
			p, err := Mul(drawn(r, n), b)
			if err != api.OK {
				continue
			}
			checkDiv(t, p, b)
			less, _ := Sub(p, api.Nat{1})
			checkDiv(t, less, b)
			if more, err := Add(p, api.Nat{1}); err == api.OK {
				checkDiv(t, more, b)
			}
		}
	}
}

// P1.2: divisions in which a limb is guessed 1 or 2 too great, or is the greatest one.
func TestDivGuesses(t *testing.T) {
	const high = 1 << 63
	for _, pair := range [][2]api.Nat{
		{{0, 0, high}, {1, high}},
		{{0, top - 1, high}, {top, high}},
		{{0, 0, 0, high}, {1, 0, high}},
		{{0, 0, high, high - 1}, {1, 0, high}},
		{{3, 0, high}, {1, 0, 1 << 61}},
		{{0, 0, 1}, {top, top}},
		{{top, top, top, top}, {top, top}},
		{{0, top, high - 1}, {top, high}},
		{{0, 0, 0, 1}, {top, high}},
		{{0, high, top, high - 1}, {top, high, high}},
	} {
		checkDiv(t, pair[0], pair[1])
	}
	edge := []uint64{0, 1, 2, high - 1, high, high + 1, top - 1, top}
	for i := range len(edge) * len(edge) * len(edge) * len(edge) {
		a := trimmed(api.Nat{edge[i%8], edge[i/8%8], edge[i/64%8], edge[i/512%8]})
		for _, low := range edge {
			for _, next := range edge[1:] {
				checkDiv(t, a, api.Nat{low, next})
			}
		}
	}
}

// P1.2: a lesser number by a greater one, one by itself, and by 1.
func TestDivEdges(t *testing.T) {
	greatest := filled(64, top)
	less, _ := Sub(greatest, api.Nat{1})
	if q, rest, err := Div(less, greatest); err != api.OK || len(q) != 0 || !same(rest, less) {
		t.Error("less by the greatest number:", q, err)
	}
	if q, rest, err := Div(greatest, greatest); err != api.OK || !same(q, api.Nat{1}) || len(rest) != 0 {
		t.Error("the greatest number by itself:", q, rest, err)
	}
	if q, rest, err := Div(greatest, api.Nat{1}); err != api.OK || !same(q, greatest) || len(rest) != 0 {
		t.Error("the greatest number by 1:", rest, err)
	}
	if q, rest, err := Div(nil, api.Nat{3}); err != api.OK || len(q) != 0 || len(rest) != 0 {
		t.Error("0 by 3:", q, rest, err)
	}
	if q, rest, err := Div(nil, nil); err != api.ErrNatZero || q != nil || rest != nil {
		t.Error("0 by 0:", q, rest, err)
	}
}

// ErrArg goes ahead of ErrNatZero.
func TestDivOfWrong(t *testing.T) {
	for _, w := range wrong() {
		for _, a := range []api.Nat{nil, {5}, {0}, filled(64, top)} {
			if q, rest, err := Div(w, a); err != api.ErrArg || q != nil || rest != nil {
				t.Error(w, a, q, rest, err)
			}
			if q, rest, err := Div(a, w); err != api.ErrArg || q != nil || rest != nil {
				t.Error(a, w, q, rest, err)
			}
		}
	}
}
