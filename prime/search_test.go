package prime

import (
	"bytes"
	"math"
	"slices"
	"testing"

	"windbreak/api"
	"windbreak/tape"
)

// P5.3: searches of all lengths, one behind the other to the tape's end, by another reckoning.
func TestSearch(t *testing.T) {
	for length := 8; length <= 40; length++ {
		for seed, tries := range []int{1, 2, 10, 100, 10_000} {
			checkSearch(t, bytesOf(uint64(100*length+seed), 1000), length, tries, 30)
		}
	}
}

// P5.3: all tries of 8 bits, and which of them is a prime.
func TestEachByte(t *testing.T) {
	for b := range 256 {
		x := of(t, byte(b))
		want, err := uint64(b)|129, api.OK
		if !isPrime(want) {
			want, err = 0, api.ErrPrimeNone
		}
		if p, e := Search(x, 8, 1); p != want || e != err || x.Left() != 0 {
			t.Error("of", b, p, e, x.Left(), "asked:", want, err)
		}
	}
}

// P5.3: how many bytes a try takes: those that the bits need, no more.
func TestBytesOfTry(t *testing.T) {
	for _, c := range []struct{ length, size int }{{8, 1}, {9, 2}, {15, 2}, {16, 2}, {17, 3}, {24, 3}, {25, 4}, {32, 4}, {33, 5}, {39, 5}, {40, 5}} {
		p := primesDown(1<<c.length-1, 1)[0]
		all := append(bytesFor(p, c.length), 1, 2, 3)
		x := of(t, all...)
		if got, err := Search(x, c.length, 1); err != api.OK || got != p {
			t.Error("of", c.length, "bits:", got, err, "asked:", p)
		}
		left(t, "behind a try", x, all[c.size:])
	}
}

// P5.3: the first byte is the highest; bits above the highest one fall away; the highest and the lowest are set, whether they were or not.
func TestWhichBits(t *testing.T) {
	for _, c := range []struct {
		bytes  []byte
		length int
		want   uint64
	}{
		{[]byte{3}, 8, 131}, {[]byte{2}, 8, 131}, {[]byte{130}, 8, 131}, {[]byte{131}, 8, 131}, {[]byte{123}, 8, 251},
		{[]byte{1, 1}, 9, 257}, {[]byte{0, 0}, 9, 257}, {[]byte{255, 0}, 9, 257}, {[]byte{254, 6}, 9, 263}, {[]byte{6, 254}, 9, 0},
		{[]byte{1, 5}, 16, 0x8105}, {[]byte{5, 1}, 16, 0}, {[]byte{0x81, 4}, 16, 0x8105},
		{[]byte{255, 255, 255, 255, 168}, 40, last}, {[]byte{127, 255, 255, 255, 169}, 40, last}, {[]byte{169, 255, 255, 255, 127}, 40, 0},
		{[]byte{255, 255, 255, 255, 249}, 39, 1<<39 - 7}, {[]byte{63, 255, 255, 255, 248}, 39, 1<<39 - 7},
		{[]byte{255, 255, 255, 251}, 32, 1<<32 - 5}, {[]byte{254, 255, 255, 255, 247}, 33, 1<<33 - 9},
	} {
		err := api.OK
		if c.want == 0 {
			err = api.ErrPrimeNone
		} else if !isPrime(c.want) {
			t.Error("no prime:", c.want)
		}
		if p, e := Search(of(t, c.bytes...), c.length, 1); p != c.want || e != err {
			t.Error("of", c.bytes, "and", c.length, "bits:", p, e, "asked:", c.want)
		}
	}
}

// P5.3: the first prime is the answer, and nothing behind it is taken; a try that is none goes on with the next bytes.
func TestFirstPrime(t *testing.T) {
	x := of(t, 4, 7, 3, 9, 3, 11)
	for _, want := range []uint64{131, 137, 131, 139} {
		if p, err := Search(x, 8, 3); err != api.OK || p != want {
			t.Error("drawn:", p, err, "asked:", want)
		}
	}
	left(t, "behind the primes", x, nil)
	x = of(t, 4, 4, 4, 4, 9, 8, 1)
	if p, err := Search(x, 8, 5); err != api.OK || p != 137 {
		t.Error("in the fifth try:", p, err)
	}
	left(t, "behind five tries", x, []byte{8, 1})
}

// P5.3: no try finds a prime, as many as are asked for and no more; their bytes are used.
func TestNoneFound(t *testing.T) {
	for _, tries := range []int{1, 2, 3, 77, 9_999, 10_000} {
		all := bytes.Repeat([]byte{4}, 10_001)
		all[len(all)-1] = 3
		x := of(t, all...)
		if p, err := Search(x, 8, tries); err != api.ErrPrimeNone || p != 0 {
			t.Error("in", tries, "tries:", p, err)
		}
		left(t, "behind the tries", x, all[tries:])
	}
	for _, length := range []int{9, 16, 24, 32, 39, 40} {
		size := (length + 7) / 8
		n := uint64(1)<<length - 1
		for isPrime(n) {
			n -= 2
		}
		all := bytes.Repeat(bytesFor(n, length), 10)
		x := of(t, all...)
		if p, err := Search(x, length, 7); err != api.ErrPrimeNone || p != 0 {
			t.Error("of", length, "bits:", p, err)
		}
		left(t, "behind seven tries", x, all[7*size:])
	}
}

// P5.3: a prime in the last try that may be, the 10000th, is found; in the one behind it is not.
func TestLastTry(t *testing.T) {
	for _, tries := range []int{1, 2, 100, 10_000} {
		all := append(bytes.Repeat([]byte{0, 3}, tries-1), 1, 1, 1, 7) // 259 is 7 times 37
		x := of(t, all...)
		if p, err := Search(x, 9, tries); err != api.OK || p != 257 {
			t.Error("in try", tries, p, err)
		}
		left(t, "behind the last try", x, []byte{1, 7})
		if tries > 1 {
			x = of(t, all...)
			if p, err := Search(x, 9, tries-1); err != api.ErrPrimeNone || p != 0 {
				t.Error("behind", tries-1, "tries:", p, err)
			}
			left(t, "behind one try less", x, []byte{1, 1, 1, 7})
		}
	}
}

// P5.3: the tape ends at the first try, which takes none, whatever is left for a shorter one.
func TestEndAtOnce(t *testing.T) {
	for length := 8; length <= 40; length++ {
		for count := range (length + 7) / 8 {
			all := bytesOf(uint64(length), count)
			x := of(t, all...)
			if p, err := Search(x, length, 10_000); err != api.ErrTapeEnd || p != 0 {
				t.Error("of", count, "bytes and", length, "bits:", p, err)
			}
			left(t, "behind the end", x, all)
		}
	}
}

// P5.3: the tape ends at a later try, which takes none; those of the tries ahead are used. It ends ahead of the tries, not behind the last one.
func TestEndLater(t *testing.T) {
	for _, c := range []struct {
		bytes         []byte
		length, tries int
		left          []byte
		err           api.Errno
	}{
		{[]byte{4}, 8, 2, nil, api.ErrTapeEnd}, {[]byte{4}, 8, 1, nil, api.ErrPrimeNone}, {[]byte{4, 4, 4}, 8, 4, nil, api.ErrTapeEnd}, {[]byte{4, 4, 4}, 8, 3, nil, api.ErrPrimeNone},
		{[]byte{0, 3, 1}, 9, 2, []byte{1}, api.ErrTapeEnd}, {[]byte{0, 1, 0, 3, 9}, 16, 1, []byte{0, 3, 9}, api.ErrPrimeNone}, {[]byte{0, 3, 0, 3, 9}, 9, 10_000, []byte{9}, api.ErrTapeEnd},
		{[]byte{0, 0, 0, 0, 0, 1, 2, 3, 4}, 40, 2, []byte{1, 2, 3, 4}, api.ErrTapeEnd}, {[]byte{0, 0, 0, 0, 0, 1, 2, 3, 4}, 40, 1, []byte{1, 2, 3, 4}, api.ErrPrimeNone},
	} {
		x := of(t, c.bytes...)
		if p, err := Search(x, c.length, c.tries); err != c.err || p != 0 {
			t.Error("of", c.bytes, c.length, c.tries, p, err, "asked:", c.err)
		}
		left(t, "behind the end", x, c.left)
	}
}

// P5.3: no tape, lengths and tries that may not be: ErrArg, ahead of all else, and nothing is taken.
func TestSearchWrong(t *testing.T) {
	lengths := []int{math.MinInt, -8, -1, 0, 1, 2, 7, 41, 42, 48, 64, 72, math.MaxInt}
	tries := []int{math.MinInt, -1, 0, 10_001, 10_002, 65_536, math.MaxInt}
	for _, all := range [][]byte{nil, {3}, bytesOf(7, 300)} {
		x := of(t, all...)
		ask := func(from *tape.Tape, length, count int) {
			if p, err := Search(from, length, count); err != api.ErrArg || p != 0 {
				t.Error("of", length, "bits in", count, "tries:", p, err)
			}
			if k, err := Pair(from, length, count); err != api.ErrArg || k != (api.Key{}) {
				t.Error("a pair of", length, "bits in", count, "tries:", k, err)
			}
		}
		for _, length := range lengths {
			for _, count := range append(slices.Clone(tries), 1, 100, 10_000) {
				ask(x, length, count)
				ask(nil, length, count)
			}
		}
		for length := 8; length <= 40; length++ {
			for _, count := range tries {
				ask(x, length, count)
			}
			ask(nil, length, 1)
			ask(nil, length, 10_000)
		}
		left(t, "behind wrong searches", x, all)
	}
}

// P5.3: the lengths and the counts of tries at the edges may be.
func TestSearchEdges(t *testing.T) {
	for _, length := range []int{8, 9, 39, 40} {
		for _, tries := range []int{1, 2, 9_999, 10_000} {
			p := primesFrom(1<<(length-1), 1)[0]
			x := of(t, bytesFor(p, length)...)
			if got, err := Search(x, length, tries); err != api.OK || got != p || x.Left() != 0 {
				t.Error("of", length, "bits in", tries, "tries:", got, err)
			}
		}
	}
}
