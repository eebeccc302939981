package nat

import (
	"math/big"
	"math/rand/v2"
	"strings"
	"testing"

	"windbreak/api"
)

// P1.4: a number's text, by another reckoning.
func TestText(t *testing.T) {
	for _, a := range samples() {
		if got, want := Text(a), toBig(a).String(); got != want {
			t.Error(a, got, want)
		}
	}
	for a, want := range map[uint64]string{0: "0", 7: "7", 10: "10", 1000: "1000", top: "18446744073709551615"} {
		if got := Text(Of(a)); got != want {
			t.Error(a, got)
		}
	}
	if got := Text(power(64)); got != "18446744073709551616" {
		t.Error("2^64:", got)
	}
	for _, w := range wrong() {
		if Text(w) != "" {
			t.Error("of what may not be:", w, Text(w))
		}
	}
}

// P1.4: powers of ten have a group of digits 0 at each place.
func TestTextOfTens(t *testing.T) {
	for n := range 1234 {
		want := "1" + strings.Repeat("0", n)
		v, _ := new(big.Int).SetString(want, 10)
		if got := Text(fromBig(v)); got != want {
			t.Fatal("10 to the power of", n, "is", got)
		}
	}
}

// P1.4: texts of each length are read as another reckoning reads them.
func TestParse(t *testing.T) {
	r := rand.New(rand.NewPCG(6, 6))
	for n := 1; n <= 1240; n++ {
		d := []byte{'1' + byte(r.IntN(9))}
		for len(d) < n {
			d = append(d, '0'+byte(r.IntN(10)))
		}
		for _, s := range []string{string(d), "1" + strings.Repeat("0", n-1), strings.Repeat("9", n)} {
			v, _ := new(big.Int).SetString(s, 10)
			a, err := Parse(s)
			checkNat(t, "a text", a, err, v)
		}
	}
}

// P1.4: 1, 1240 and 1241 digits; the last number that fits, and the first that does not.
func TestParseEdges(t *testing.T) {
	for n := range uint64(10) {
		if a, err := Parse(string(rune('0' + n))); err != api.OK || !same(a, Of(n)) {
			t.Error("one digit:", n, a, err)
		}
	}
	over := new(big.Int).Lsh(big.NewInt(1), 4096)
	last := new(big.Int).Sub(over, big.NewInt(1))
	if a, err := Parse(last.String()); err != api.OK || !same(a, filled(64, top)) {
		t.Error("the greatest number:", err)
	}
	for _, s := range []string{over.String(), "1" + strings.Repeat("0", 1239), strings.Repeat("9", 1240)} {
		if a, err := Parse(s); err != api.ErrNatLong || a != nil {
			t.Error("too long:", len(s), a, err)
		}
	}
	for _, s := range []string{"1" + strings.Repeat("0", 1240), strings.Repeat("9", 1241), strings.Repeat("0", 1241), strings.Repeat("1", 100000)} {
		if a, err := Parse(s); err != api.ErrNatForm || a != nil {
			t.Error("too many digits:", len(s), a, err)
		}
	}
}

// P1.4: what is no number's text; its form goes ahead of its size.
func TestParseForm(t *testing.T) {
	for _, s := range []string{
		"", "00", "01", "007", "0" + strings.Repeat("1", 30), strings.Repeat("0", 1240),
		"-1", "+1", "-0", " 1", "1 ", "1\n", "1_000", "1,000", "1.0", "1e3", "0x10", "a", "/", ":", "\x00", "\xff", "1\x00",
		"\u0661", "\uff11", "12\u0663", "123456789012345678a", "1234567890123456789-",
		strings.Repeat("9", 1239) + "x", "x" + strings.Repeat("9", 1239),
	} {
		if a, err := Parse(s); err != api.ErrNatForm || a != nil {
			t.Errorf("%q: %v %v", s, a, err)
		}
	}
	for c := range 256 {
		if c >= '0' && c <= '9' {
			continue
		}
		for _, s := range []string{string([]byte{byte(c)}), string([]byte{'1', byte(c)}), string([]byte{byte(c), '1'})} {
			if _, err := Parse(s); err != api.ErrNatForm {
				t.Errorf("%q: %v", s, err)
			}
		}
	}
}
