package codec

import (
	"bytes"
	"encoding/binary"
	"math/big"
	"math/rand/v2"
	"slices"
	"testing"
)

// filled is so many bytes, each the same, and others behind.
func filled(count int, b byte, behind ...byte) []byte {
	return append(bytes.Repeat([]byte{b}, count), behind...)
}

// P9.1: the edges that the document names, written out.
func TestNumber(t *testing.T) {
	for _, c := range []struct {
		n    uint64
		want []byte
	}{
		{0, []byte{0}}, {1, []byte{1}}, {127, []byte{127}}, {128, []byte{128, 1}}, {129, []byte{129, 1}}, {255, []byte{255, 1}}, {256, []byte{128, 2}}, {300, []byte{172, 2}},
		{16383, []byte{255, 127}}, {16384, []byte{128, 128, 1}}, {1 << 63, filled(9, 128, 1)}, {1<<63 - 1, filled(8, 255, 127)}, {topNumber - 1, append([]byte{254}, filled(8, 255, 1)...)}, {topNumber, filled(9, 255, 1)},
	} {
		if got := Number(c.n); !bytes.Equal(got, c.want) {
			t.Error(c.n, got, "asked:", c.want)
		}
	}
}

// P9.1: each power of 128, and one less: there a number gets one digit more.
func TestNumberOfPowers(t *testing.T) {
	p := uint64(1)
	for count := 1; count <= 9; count++ {
		p *= 128
		if got := Number(p); !bytes.Equal(got, filled(count, 128, 1)) {
			t.Error("128 to the power of", count, got)
		}
		if got := Number(p - 1); !bytes.Equal(got, filled(count-1, 255, 127)) {
			t.Error("one less than 128 to the power of", count, got)
		}
	}
}

func checkNumber(t testing.TB, n uint64) {
	t.Helper()
	got := Number(n)
	if !bytes.Equal(got, digits(new(big.Int).SetUint64(n))) || !bytes.Equal(got, binary.AppendUvarint(nil, n)) {
		t.Error("Number of", n, got)
	}
}

// P9.1: many numbers, of each length.
func TestNumberOfMany(t *testing.T) {
	for n := range uint64(40000) {
		checkNumber(t, n)
	}
	for _, n := range numbers() {
		checkNumber(t, n)
	}
	r := rand.New(rand.NewPCG(2, 9))
	for range 20000 {
		checkNumber(t, r.Uint64()>>r.IntN(64))
	}
}

// P9.1: whole numbers of either sign, the greatest and the least, written out.
func TestInt(t *testing.T) {
	for _, c := range []struct {
		x    int64
		want []byte
	}{
		{0, []byte{0}}, {-1, []byte{1}}, {1, []byte{2}}, {-2, []byte{3}}, {2, []byte{4}}, {63, []byte{126}}, {-64, []byte{127}}, {64, []byte{128, 1}}, {-65, []byte{129, 1}}, {150, []byte{172, 2}}, {-150, []byte{171, 2}},
		{1 << 62, filled(9, 128, 1)}, {-1 << 62, filled(8, 255, 127)}, {topInt, append([]byte{254}, filled(8, 255, 1)...)}, {leastInt + 1, append([]byte{253}, filled(8, 255, 1)...)}, {leastInt, filled(9, 255, 1)},
	} {
		if got := Int(c.x); !bytes.Equal(got, c.want) {
			t.Error(c.x, got, "asked:", c.want)
		}
	}
}

func checkInt(t testing.TB, x int64) {
	t.Helper()
	got := Int(x)
	if !bytes.Equal(got, digits(folded(big.NewInt(x)))) || !bytes.Equal(got, binary.AppendVarint(nil, x)) {
		t.Error("Int of", x, got)
	}
}

// P9.1: many whole numbers, of each length and either sign.
func TestIntOfMany(t *testing.T) {
	for x := int64(-20000); x <= 20000; x++ {
		checkInt(t, x)
	}
	for _, x := range wholes() {
		checkInt(t, x)
	}
	r := rand.New(rand.NewPCG(3, 9))
	for range 20000 {
		checkInt(t, int64(r.Uint64())>>r.IntN(64))
	}
}

// P9.1: the bytes stand behind the code of how many they are.
func TestBytes(t *testing.T) {
	for _, c := range []struct{ b, want []byte }{
		{nil, []byte{0}}, {[]byte{}, []byte{0}}, {[]byte{0}, []byte{1, 0}}, {[]byte{255}, []byte{1, 255}}, {[]byte{7, 8}, []byte{2, 7, 8}},
		{filled(127, 5), append([]byte{127}, filled(127, 5)...)}, {filled(128, 5), append([]byte{128, 1}, filled(128, 5)...)}, {filled(300, 0), append([]byte{172, 2}, filled(300, 0)...)},
	} {
		if got := Bytes(c.b); !bytes.Equal(got, c.want) {
			t.Error(short(c.b), short(got), "asked:", short(c.want))
		}
	}
	for _, count := range append(counts(), 1<<20, 1<<21, 1<<21+1) {
		b := bytesOf(uint64(count), count)
		if got := Bytes(b); !bytes.Equal(got, slices.Concat(digits(big.NewInt(int64(count))), b)) {
			t.Error("of", count, "bytes:", short(got))
		}
	}
}
