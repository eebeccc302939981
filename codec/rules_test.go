package codec

import (
	"bytes"
	"math"
	"slices"
	"testing"

	"windbreak/api"
)

// spoil overwrites all that bytes could reach, behind their end too.
func spoil(b []byte) {
	b = b[:cap(b)]
	for i := range b {
		b[i] ^= 0x55
	}
}

// mixed are codes of all kinds, among them some that are refused.
func mixed() []byte {
	return slices.Concat(Bytes([]byte{1, 2, 3}), Number(300), Bytes(nil), Int(-77), Bytes(bytesOf(5, 200)), Number(topNumber), Bytes([]byte{4, 5, 6}), []byte{128, 0})
}

// play is all that calls of each kind tell of a reader, one behind the other, as bytes; each answer is spoilt behind its call, if so asked.
func play(r *Reader, spoilt bool) []byte {
	var told []byte
	for _, most := range []int64{2, 3, 77, 300, -1, 1, 0, 100, topInt, topInt, topInt, topInt} {
		b, err1 := r.Bytes(int(most))
		told = append(append(told, byte(err1), byte(r.Left())), b...)
		if spoilt {
			spoil(b)
			_ = append(b, 9, 9, 9)
		}
		x, err2 := r.Int(most)
		n, err3 := r.Number(uint64(most))
		told = append(told, byte(err2), byte(err3), byte(x), byte(n), byte(n>>8), byte(r.Left()))
	}
	return told
}

// R3: what is handed in stays as it is, behind its end too.
func TestHandedInStays(t *testing.T) {
	all := append(mixed(), 11, 12, 13)
	for count := range all {
		given := slices.Clone(all)
		play(New(given[:count]), true)
		spoil(Bytes(given[:count]))
		_ = append(Bytes(given[:count]), 9, 9, 9)
		if !bytes.Equal(given, all) {
			t.Fatal("changed:", count)
		}
	}
}

// R3: a change of what was handed in changes no reading, ahead of the first one and in between.
func TestReaderIsOwn(t *testing.T) {
	want := play(New(mixed()), false)
	given := mixed()
	r := New(given)
	spoil(given)
	if !bytes.Equal(play(r, false), want) {
		t.Error("the reader is shared with what was handed in")
	}
	given = mixed()
	r = New(given)
	r.Bytes(3)
	spoil(given)
	if n, err := r.Number(300); n != 300 || err != api.OK {
		t.Error("behind a change:", n, err)
	}
}

// R3: what is told is the caller's own: no later reading hangs on it, and no other answer.
func TestToldIsOwn(t *testing.T) {
	if !bytes.Equal(play(New(mixed()), true), play(New(mixed()), false)) {
		t.Error("what is told is shared with the reader")
	}
	r := New(slices.Concat(Bytes([]byte{1, 2}), Bytes(nil), Bytes([]byte{3, 4})))
	first, _ := r.Bytes(2)
	none, _ := r.Bytes(0)
	second, _ := r.Bytes(2)
	spoil(first)
	spoil(none)
	_ = append(first, 9, 9, 9)
	_ = append(none, 9, 9, 9)
	if !bytes.Equal(second, []byte{3, 4}) {
		t.Error("answers share memory:", second)
	}
	for _, made := range []func() []byte{func() []byte { return Number(300) }, func() []byte { return Int(-300) }, func() []byte { return Bytes([]byte{7, 8}) }} {
		a, b := made(), made()
		want := slices.Clone(b)
		spoil(a)
		if !bytes.Equal(b, want) || !bytes.Equal(made(), want) {
			t.Error("codes share memory:", want)
		}
	}
	given := []byte{7, 8, 9}
	code := Bytes(given)
	spoil(given)
	if !bytes.Equal(code, []byte{3, 7, 8, 9}) {
		t.Error("a code shares what was handed in:", code)
	}
}

// R3: two readers of the same bytes share nothing: what one reads is left to the other.
func TestReadersAreApart(t *testing.T) {
	given := mixed()
	want := play(New(given), false)
	x, y := New(given), New(given)
	play(x, true)
	if y.Left() != len(given) || !bytes.Equal(play(y, false), want) {
		t.Error("what one reader read is read by the other")
	}
}

// R2: nil and empty are the same, handed in and out.
func TestNilAndEmpty(t *testing.T) {
	for _, b := range [][]byte{nil, {}, make([]byte, 0, 9)} {
		if code := Bytes(b); !bytes.Equal(code, []byte{0}) {
			t.Error("of no bytes:", code)
		}
		r := New(b)
		if r == nil || r.Left() != 0 || !bytes.Equal(play(r, false), play(New(nil), false)) {
			t.Error("a reader of no bytes")
		}
	}
	if b, err := New([]byte{0}).Bytes(0); len(b) != 0 || err != api.OK {
		t.Error("no bytes read:", b, err)
	}
}

// R4: a reader tells the same whatever other readers were asked, ahead and in between.
func TestNothingKept(t *testing.T) {
	want := play(New(mixed()), false)
	x, other := New(mixed()), New(bytesOf(6, 300))
	play(other, true)
	Number(topNumber)
	Int(leastInt)
	Bytes(bytesOf(7, 1000))
	if !bytes.Equal(play(x, false), want) {
		t.Error("a reader hangs on another one")
	}
}

// P1: no call panics, nor does one of a reader that New did not make: it is one of no bytes.
func TestNoReader(t *testing.T) {
	for _, r := range []*Reader{nil, {}} {
		if r.Left() != 0 {
			t.Error("left:", r.Left())
		}
		for _, most := range mosts() {
			n, err1 := r.Number(uint64(most))
			x, err2 := r.Int(most)
			b, err3 := r.Bytes(int(most))
			if err1 != api.ErrCode || err2 != api.ErrCode || err3 != api.ErrCode || n != 0 || x != 0 || b != nil {
				t.Error("of at most", most, n, x, b, err1, err2, err3)
			}
		}
	}
}

// FuzzCodes looks for bytes and numbers at which a call panics, or reads or makes another code than another reckoning.
func FuzzCodes(f *testing.F) {
	f.Add([]byte{172, 2, 1, 2, 7, 8}, uint64(300), int64(-1))
	f.Add([]byte{128, 0}, uint64(0), leastInt)
	f.Add(filled(9, 255, 1), topNumber, topInt)
	f.Add([]byte(nil), uint64(math.MaxInt64), int64(0))
	f.Fuzz(func(t *testing.T, b []byte, n uint64, x int64) {
		checkNumber(t, n)
		checkInt(t, x)
		again(t, b)
		walk(t, b, n)
		pairOf(t, append(Number(n), b...)).some(int(x))
		pairOf(t, append(Int(x), b...)).whole(int64(n))
		p := pairOf(t, append(Bytes(b), b...))
		if p.some(len(b)) != api.OK || p.r.Left() != len(b) {
			t.Error("bytes:", b)
		}
	})
}
