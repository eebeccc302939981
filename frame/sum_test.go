package frame

import (
	"bytes"
	"hash/crc32"
	"math/bits"
	"testing"
)

func checkSum(t testing.TB, b []byte) {
	t.Helper()
	if got := Sum(b); got != bitSum(b) || got != crc32.ChecksumIEEE(b) {
		t.Errorf("%d bytes %v: %d, asked %d and %d", len(b), short(b), got, bitSum(b), crc32.ChecksumIEEE(b))
	}
}

// P10.1: sums written out; that of no bytes is 0.
func TestSum(t *testing.T) {
	for _, c := range []struct {
		b    []byte
		want uint32
	}{
		{nil, 0}, {[]byte{}, 0}, {make([]byte, 0, 8), 0}, {[]byte("123456789"), 3421780262}, {[]byte{0, 0, 0, 0}, ownSum},
		{[]byte{0}, 0xd202ef8d}, {[]byte{1}, 0xa505df1b}, {[]byte{255}, 0xff000000}, {[]byte("a"), 0xe8b7be43}, {[]byte("abc"), 0x352441c2}, {bytes.Repeat([]byte{255}, 4), 0xffffffff},
	} {
		if got := Sum(c.b); got != c.want {
			t.Error(c.b, got, "asked:", c.want)
		}
	}
}

// P10.1: the sum of each single byte, and of each two, by other reckonings.
func TestSumOfFew(t *testing.T) {
	for x := range 256 {
		checkSum(t, []byte{byte(x)})
		for y := range 256 {
			checkSum(t, []byte{byte(x), byte(y)})
		}
	}
}

// P10.1: sums of many bytes, of each length.
func TestSumOfMany(t *testing.T) {
	for count := range 1200 {
		checkSum(t, bytesOf(uint64(count), count))
		checkSum(t, make([]byte, count))
		checkSum(t, bytes.Repeat([]byte{255}, count))
	}
	for _, count := range []int{1 << 16, 1<<20 - 1, 1 << 20, 1<<20 + 14, 1<<21 + 3} {
		checkSum(t, bytesOf(uint64(count), count))
	}
}

// P10.1: the sum hangs on each byte, wherever it stands, and on how many there are.
func TestSumOfAnother(t *testing.T) {
	b := bytesOf(4, 100)
	sum := Sum(b)
	for i := range b {
		for x := range 256 {
			c := bytes.Clone(b)
			c[i] ^= byte(x)
			if (Sum(c) == sum) != (x == 0) {
				t.Error("the byte", i, "turned by", x)
			}
		}
	}
	seen := map[uint32]int{}
	for count := range 1000 {
		s := Sum(make([]byte, count))
		if other, ok := seen[s]; ok {
			t.Error("so many bytes 0 have one sum:", other, count)
		}
		seen[s] = count
	}
}

// P10.1: the table's numbers are what eight steps make, and no two are the same.
func TestEightSteps(t *testing.T) {
	steps := eightSteps()
	for n := range uint32(256) {
		if got := steps[n]; got != bits.Reverse32(reversedSteps(bits.Reverse32(n))) {
			t.Error(n, got)
		}
		for other := range n {
			if steps[other] == steps[n] {
				t.Error("the same:", other, n)
			}
		}
	}
}

// reversedSteps are eight steps of a number whose bits stand in the other order: there the highest bit is looked at, and what it turns over is 04C11DB7.
func reversedSteps(r uint32) uint32 {
	for range 8 {
		high := r >> 31
		r = r<<1 ^ high*0x04c11db7
	}
	return r
}
