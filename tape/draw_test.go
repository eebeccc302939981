package tape

import (
	"bytes"
	"math"
	"slices"
	"testing"

	"windbreak/api"
	"windbreak/nat"
)

// P4.2: draws by another reckoning, of all bounds, one behind the other to the tape's end.
func TestBelow(t *testing.T) {
	for i, n := range bounds() {
		checkBelow(t, bytesOf(uint64(i), 3000), n, 400)
		checkBelow(t, bytes.Repeat([]byte{255}, 2000), n, 400)
		checkBelow(t, make([]byte, 2000), n, 400)
	}
}

// P4.2: draws below each small number, and Small is Below of it.
func TestSmall(t *testing.T) {
	for n := 1; n <= 700; n++ {
		b := bytesOf(uint64(n), 60)
		checkBelow(t, b, nat.Of(uint64(n)), 100)
		checkSmall(t, b, n)
	}
	for _, n := range []int{1 << 15, 1<<16 - 1, 1 << 16, 1<<16 + 1, 1<<31 - 1, 1 << 31, 1<<31 + 1, 1 << 40, math.MaxInt - 1, math.MaxInt} {
		checkSmall(t, bytesOf(uint64(n), 400), n)
	}
}

// checkSmall asks of draws by Small, to the tape's end, that they are those by Below.
func checkSmall(t *testing.T, b []byte, n int) {
	t.Helper()
	x, y := of(t, b...), of(t, b...)
	for range 100 {
		small, err := x.Small(n)
		want, end := y.Below(nat.Of(uint64(n)))
		if err != end || !slices.Equal(nat.Of(uint64(small)), want) || x.Left() != y.Left() || small < 0 || small >= n {
			t.Fatalf("below %d: %d, error %d, %d left; asked %v, error %d, %d left", n, small, err, x.Left(), want, end, y.Left())
		}
	}
}

// P4.2: below 1 is 0 alone, and nothing is used, even where nothing is left.
func TestBelowOne(t *testing.T) {
	for _, all := range [][]byte{nil, {0}, {255}, {1, 2, 3}} {
		x := of(t, all...)
		if a, err := x.Below(api.Nat{1}); err != api.OK || len(a) != 0 {
			t.Error("below 1:", a, err)
		}
		if a, err := x.Small(1); err != api.OK || a != 0 {
			t.Error("small below 1:", a, err)
		}
		left(t, "behind draws below 1", x, all)
	}
}

// P4.2: how many bytes a draw uses whose first try finds a number: as many as the bits of n - 1 need, not those of n.
func TestUsed(t *testing.T) {
	for _, c := range []struct {
		n    api.Nat
		used int
	}{
		{api.Nat{1}, 0}, {api.Nat{2}, 1}, {api.Nat{3}, 1}, {api.Nat{255}, 1}, {api.Nat{256}, 1}, {api.Nat{257}, 2},
		{api.Nat{65535}, 2}, {api.Nat{65536}, 2}, {api.Nat{65537}, 3}, {power(24, 0), 3}, {power(24, 1), 4},
		{api.Nat{top}, 8}, {power(64, 0), 8}, {power(64, 1), 9}, {power(512, 0), 64}, {power(512, 1), 65},
		{power(4088, 0), 511}, {power(4088, 1), 512}, {power(4095, 0), 512}, {power(4095, 1), 512}, {filled(64, top), 512},
	} {
		x := of(t, make([]byte, 600)...)
		if a, err := x.Below(c.n); err != api.OK || len(a) != 0 || x.Left() != 600-c.used {
			t.Error("below", c.n, a, err, "used:", 600-x.Left(), "asked:", c.used)
		}
	}
}

// P4.2: the first byte is the highest, and of the bits just the lowest w count.
func TestWhichBits(t *testing.T) {
	for _, c := range []struct {
		bytes []byte
		n     uint64
		want  uint64
	}{
		{[]byte{5}, 4, 1}, {[]byte{255}, 4, 3}, {[]byte{254}, 2, 0}, {[]byte{255}, 2, 1}, {[]byte{0x80}, 2, 0},
		{[]byte{0xa7}, 128, 0x27}, {[]byte{0x80}, 129, 0x80}, {[]byte{0xa7}, 256, 0xa7}, {[]byte{0xff}, 256, 0xff},
		{[]byte{0, 2}, 257, 2}, {[]byte{2, 2}, 257, 2}, {[]byte{1, 0}, 257, 256}, {[]byte{1, 2}, 65536, 258}, {[]byte{2, 1}, 65536, 513},
		{[]byte{0xff, 0xff}, 1 << 9, 511}, {[]byte{0xfe, 0x03}, 1 << 9, 3}, {[]byte{0x12, 0x34, 0x56}, 1 << 20, 0x23456},
		{[]byte{0x12, 0x34, 0x56, 0x78, 0x9a, 0xbc, 0xde, 0xf0}, 1 << 63, 0x123456789abcdef0},
		{[]byte{0x92, 0x34, 0x56, 0x78, 0x9a, 0xbc, 0xde, 0xf0}, 1 << 63, 0x123456789abcdef0},
	} {
		x := of(t, c.bytes...)
		if a, err := x.Below(nat.Of(c.n)); err != api.OK || !slices.Equal(a, nat.Of(c.want)) || x.Left() != 0 {
			t.Error("of", c.bytes, "below", c.n, a, err, x.Left())
		}
	}
}

// P4.2: a try that is n itself, or above it, finds nothing, and the next one goes on with the next bytes.
func TestTriesGoOn(t *testing.T) {
	for _, c := range []struct {
		bytes []byte
		n     int
		want  int
		left  []byte
	}{
		{[]byte{3, 1}, 3, 1, nil}, {[]byte{3, 1, 9}, 3, 1, []byte{9}}, {[]byte{2, 3}, 3, 2, []byte{3}},
		{[]byte{5, 6, 7, 4, 8}, 5, 4, []byte{8}}, {[]byte{255, 254, 253}, 254, 253, nil}, {[]byte{255, 255, 255, 0}, 129, 0, nil},
		{[]byte{1, 1, 1, 2, 1, 0, 7}, 257, 256, []byte{7}}, {[]byte{255, 255, 0, 1, 0, 0}, 257, 1, []byte{0, 0}},
	} {
		x := of(t, c.bytes...)
		if a, err := x.Small(c.n); err != api.OK || a != c.want {
			t.Error("of", c.bytes, "below", c.n, a, err)
		}
		left(t, "behind the tries", x, c.left)
	}
	all := bytes.Repeat([]byte{255}, api.MaxTape)
	all[len(all)-1] = 254
	x := of(t, all...)
	if a, err := x.Small(255); err != api.OK || a != 254 || x.Left() != 0 {
		t.Error("65536 tries:", a, err, x.Left())
	}
}

// P4.2: the tape ends at the first try, which uses none, whatever is left for a lesser draw.
func TestEndAtOnce(t *testing.T) {
	for _, n := range bounds() {
		_, size, _ := script(make([]byte, 600), n)
		if size == 0 {
			continue
		}
		for _, count := range []int{0, size / 2, size - 1} {
			all := bytesOf(6, count)
			x := of(t, all...)
			if a, err := x.Below(n); err != api.ErrTapeEnd || a != nil {
				t.Error("of", count, "bytes below", n, a, err)
			}
			left(t, "behind the end", x, all)
		}
	}
	x := of(t, 77)
	if a, err := x.Small(257); err != api.ErrTapeEnd || a != 0 {
		t.Error("of one byte below 257:", a, err)
	}
	if a, err := x.Small(256); err != api.OK || a != 77 {
		t.Error("of one byte below 256:", a, err)
	}
}

// P4.2: the tape ends at a later try, which uses none; those of the tries ahead are used.
func TestEndLater(t *testing.T) {
	for _, c := range []struct {
		bytes []byte
		n     int
		left  []byte
	}{
		{[]byte{3}, 3, nil}, {[]byte{3, 7, 255}, 3, nil}, {[]byte{255, 255, 9}, 257, []byte{9}}, {[]byte{1, 1, 1, 1}, 257, nil},
		{[]byte{1, 1, 1, 1, 1}, 257, []byte{1}}, {[]byte{255, 255, 255, 8, 9}, 65537, []byte{8, 9}}, {[]byte{1, 0, 1}, 65537, nil},
	} {
		x := of(t, c.bytes...)
		if a, err := x.Small(c.n); err != api.ErrTapeEnd || a != 0 {
			t.Error("of", c.bytes, "below", c.n, a, err)
		}
		left(t, "behind the end", x, c.left)
	}
	n := power(4095, 1)
	all := bytes.Repeat([]byte{255}, 3*512+511)
	x := of(t, all...)
	if a, err := x.Below(n); err != api.ErrTapeEnd || a != nil {
		t.Error("below a number of 64 limbs:", a, err)
	}
	left(t, "behind three tries", x, all[:511])
}

// P4.2: below 0, below what may not be, a number whose last limb is 0 among it: ErrArg, and nothing is used.
func TestBelowWrong(t *testing.T) {
	for _, all := range [][]byte{nil, {0, 0, 0}, bytesOf(7, api.MaxTape)} {
		x := of(t, all...)
		for _, n := range wrong() {
			if a, err := x.Below(n); err != api.ErrArg || a != nil || x.Left() != len(all) {
				t.Error("below", n, a, err, x.Left())
			}
		}
		for _, n := range []int{0, -1, -2, -256, math.MinInt32, math.MinInt} {
			if a, err := x.Small(n); err != api.ErrArg || a != 0 || x.Left() != len(all) {
				t.Error("small below", n, a, err, x.Left())
			}
		}
		left(t, "behind wrong draws", x, all)
	}
}
