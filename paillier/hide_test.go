package paillier

import (
	"slices"
	"testing"

	"windbreak/api"
	"windbreak/nat"
	"windbreak/tape"
)

// P6.2: Encrypt and Again at the edges of plain texts and hiders, of each length of keys.
func TestHidden(t *testing.T) {
	for _, k := range keys() {
		n := of(k)
		for _, r := range []api.Nat{{1}, {2}, more(n, -1), more(n, -2)} {
			for _, m := range []api.Nat{nil, {1}, {5}, more(n, -1)} {
				named("Encrypt").check(t, n, m, r)
			}
			named("Again").check(t, n, more(n, 1), r)
		}
		for _, r := range []api.Nat{nil, {}, n, more(n, 1), nat.Of(k.P), nat.Of(k.Q), times(nat.Of(k.P), 2), times(nat.Of(k.Q), k.P-1)} {
			if c, err := Encrypt(n, api.Nat{5}, r); err != api.ErrArg || c != nil {
				t.Error("behind", r, "of", n, c, err)
			}
			if c, err := Again(n, api.Nat{1}, r); err != api.ErrArg || c != nil {
				t.Error("again behind", r, "of", n, c, err)
			}
		}
		for _, m := range []api.Nat{n, more(n, 1), times(n, 2), filled(64, top)} {
			if c, err := Encrypt(n, m, api.Nat{1}); err != api.ErrPlain || c != nil {
				t.Error(m, "of", n, c, err)
			}
		}
	}
}

// P6.2: behind 1 a plain text is 1 and m times n; 0 behind r is r to the power of n; and what is hidden is a cipher text.
func TestBehindOne(t *testing.T) {
	for _, n := range bases() {
		for _, m := range right(n, aPlain, some(n)) {
			want := more(limbs(number(m).Mul(number(m), number(n))), 1)
			if c, err := Encrypt(n, m, api.Nat{1}); err != api.OK || !slices.Equal(c, want) || !Valid(n, c) {
				t.Error(m, "of", n, c, err)
			}
		}
		for _, r := range right(n, aHider, some(n)) {
			none, err := Encrypt(n, nil, r)
			same, err2 := Again(n, api.Nat{1}, r)
			if err != api.OK || err2 != api.OK || !slices.Equal(none, same) || !Valid(n, none) {
				t.Error("0 behind", r, "of", n, none, same, err, err2)
			}
		}
	}
}

// P6.3: draws from tapes, one behind the other, of public keys of which most numbers are hiders, and of some of which few are.
func TestDraw(t *testing.T) {
	for i, n := range bases() {
		for k, m := range []api.Nat{nil, {1}, {5}, more(n, -1)} {
			for _, count := range []int{0, 1, 2, 9, 10, 11, 20, 100, 301} {
				checkDraws(t, bytesOf(uint64(i*100+k), count), n, m, 40)
			}
		}
		checkDraws(t, make([]byte, 100), n, nil, 2)
		checkDraws(t, slices.Repeat([]byte{255}, 100), n, nil, 2)
	}
}

// P6.3: draws that are no hiders, 0, multiples of P and of Q, and those not below n, are passed over, and their bytes are used.
func TestDrawPassesOver(t *testing.T) {
	for _, k := range fewKeys() {
		n := of(k)
		for _, r := range []api.Nat{{1}, {2}, more(n, -1)} {
			b := slices.Concat(bytesFor(n, nil), bytesFor(n, nat.Of(k.P)), bytesFor(n, n), bytesFor(n, nat.Of(k.Q)), bytesFor(n, times(nat.Of(k.P), k.Q-1)), bytesFor(n, r), []byte{7, 8, 9})
			x := tapeOf(t, b...)
			c, err := Draw(n, api.Nat{5}, x)
			want, _ := Encrypt(n, api.Nat{5}, r)
			if err != api.OK || !slices.Equal(c, want) {
				t.Error("behind", r, "of", n, c, err)
			}
			left(t, "behind a hider", x, []byte{7, 8, 9})
		}
	}
}

// P6.3: a tape that ends at the first draw, at a later one, and within a try: ErrTapeEnd; the bytes of whole tries are used.
func TestDrawEnds(t *testing.T) {
	n := api.Nat{17947} // of 15 bits: two bytes a try
	for _, c := range []struct {
		bytes, left []byte
	}{
		{nil, nil}, {[]byte{}, nil}, {[]byte{5}, []byte{5}}, {[]byte{0, 0}, nil}, {[]byte{0, 0, 5}, []byte{5}}, {[]byte{0, 131, 0, 137, 0, 0}, nil}, {[]byte{0, 131, 0, 137, 1}, []byte{1}},
		{[]byte{128, 131}, nil}, {[]byte{0x46, 0x1b, 0, 0, 0x46, 0x1b, 9}, []byte{9}}, {[]byte{255, 255, 0}, []byte{0}},
	} {
		x := tapeOf(t, c.bytes...)
		if got, err := Draw(n, api.Nat{5}, x); err != api.ErrTapeEnd || got != nil {
			t.Error("of", c.bytes, got, err)
		}
		left(t, "behind the end", x, c.left)
	}
	x := tapeOf(t, 0, 0, 0, 1, 0, 137)
	if c, err := Draw(n, api.Nat{5}, x); err != api.OK || !slices.Equal(c, api.Nat{89736}) {
		t.Error("behind 1:", c, err)
	}
	if c, err := Draw(n, api.Nat{5}, x); err != api.ErrTapeEnd || c != nil {
		t.Error("behind the last hider:", c, err)
	}
	left(t, "behind two draws", x, nil)
}

// P6.3: no tape is ErrArg, behind the others; wrong arguments use nothing of a tape, even of one that ends at once.
func TestDrawWrong(t *testing.T) {
	for _, n := range bases() {
		for _, m := range some(n) {
			want := aPlain.fault(n, m)
			if want == api.OK {
				if c, err := Draw(n, m, nil); err != api.ErrArg || c != nil {
					t.Error(m, "of", n, "of no tape:", c, err)
				}
				continue
			}
			all := bytesOf(n[0], 50)
			x := tapeOf(t, all...)
			for _, from := range []*tape.Tape{nil, x, tapeOf(t), {}} {
				if c, err := Draw(n, m, from); err != want || c != nil {
					t.Error(m, "of", n, c, err)
				}
			}
			left(t, "of a wrong plain text", x, all)
		}
	}
}
