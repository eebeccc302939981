package prime

import (
	"bytes"
	"math/big"
	"math/rand/v2"
	"slices"
	"testing"

	"windbreak/api"
	"windbreak/tape"
)

// end is 2^40, which no number reaches; last the greatest prime below it, lastHalf the greatest one below 2^20, whose square is below it.
const (
	end      = uint64(1) << 40
	last     = uint64(1099511627689)
	lastHalf = uint64(1048573)
)

// isPrime is another reckoning than the package's own: it makes no mistake below 2^64.
func isPrime(n uint64) bool { return new(big.Int).SetUint64(n).ProbablyPrime(0) }

// sieved is of each number below count its least divisor above 1, crossed out multiple by multiple; 0 of 0 and 1.
func sieved(count int) []uint64 {
	l := make([]uint64, count)
	for d := 2; d < count; d++ {
		for i := d; i < count; i += d {
			if l[i] == 0 {
				l[i] = uint64(d)
			}
		}
	}
	return l
}

// primesFrom is the first count primes from n on; primesDown those from n downwards.
func primesFrom(n uint64, count int) []uint64 {
	var l []uint64
	for ; len(l) < count; n++ {
		if isPrime(n) {
			l = append(l, n)
		}
	}
	return l
}

func primesDown(n uint64, count int) []uint64 {
	var l []uint64
	for ; len(l) < count; n-- {
		if isPrime(n) {
			l = append(l, n)
		}
	}
	return l
}

// somePrimes are those at the edges of each length from 8 to 40 bits, and some within, rising.
func somePrimes() []uint64 {
	r := rand.New(rand.NewPCG(1, 5))
	var l []uint64
	for length := api.MinPrime; length <= api.MaxPrime; length++ {
		low := uint64(1) << (length - 1)
		l = append(l, primesFrom(low, 2)...)
		l = append(l, primesFrom(low+r.Uint64N(low/2), 2)...)
		l = append(l, primesDown(2*low-1, 2)...)
	}
	slices.Sort(l)
	return slices.Compact(l)
}

// tooBig are numbers that no call takes.
func tooBig() []uint64 {
	return []uint64{end, end + 1, end + 2, end + 15, 1 << 41, 1<<41 - 1, 1 << 63, 1<<64 - 59, 1<<64 - 1}
}

// bytesOf are so many bytes, the same for the same seed.
func bytesOf(seed uint64, count int) []byte {
	r := rand.New(rand.NewPCG(seed, 5))
	b := make([]byte, count)
	for i := range b {
		b[i] = byte(r.Uint32())
	}
	return b
}

// of is the tape of bytes.
func of(t testing.TB, b ...byte) *tape.Tape {
	t.Helper()
	x, err := tape.New(b)
	if err != api.OK {
		t.Fatalf("a tape of %d bytes: error %d", len(b), err)
	}
	return x
}

// left asks how many bytes are left of a tape, and takes these, which must be just those.
func left(t *testing.T, what string, x *tape.Tape, want []byte) {
	t.Helper()
	if x.Left() != len(want) {
		t.Errorf("%s: %d bytes are left; asked %d", what, x.Left(), len(want))
		return
	}
	if b, err := x.Take(len(want)); err != api.OK || !bytes.Equal(b, want) {
		t.Errorf("%s: left are %v, error %d; asked %v", what, b, err, want)
	}
}

// tryOf is a try's number by another reckoning: the bits' text, of which those ahead fall away, the first and the last one being 1.
func tryOf(b []byte, length int) uint64 {
	text := []byte(new(big.Int).SetBytes(append([]byte{1}, b...)).Text(2))
	text = text[len(text)-length:]
	text[0], text[length-1] = '1', '1'
	v, _ := new(big.Int).SetString(string(text), 2)
	return v.Uint64()
}

// script is a search by the other reckoning: the prime, how many bytes are used, and the error.
func script(b []byte, length, tries int) (uint64, int, api.Errno) {
	size, used := (length+7)/8, 0
	for range tries {
		if len(b)-used < size {
			return 0, used, api.ErrTapeEnd
		}
		n := tryOf(b[used:used+size], length)
		used += size
		if isPrime(n) {
			return n, used, api.OK
		}
	}
	return 0, used, api.ErrPrimeNone
}

// bytesFor is the try of so many bits that leads to a number, or to one beside it, as the highest and the lowest bit are set whatever they are.
func bytesFor(n uint64, length int) []byte {
	b := make([]byte, (length+7)/8)
	new(big.Int).SetUint64(n).FillBytes(b)
	return b
}

// checkSearch asks of searches from the bytes, one behind the other till one fails, that each is the other reckoning's, as is what is left; so many at most.
func checkSearch(t *testing.T, b []byte, length, tries, count int) {
	t.Helper()
	x := of(t, b...)
	for range count {
		want, used, fails := script(b, length, tries)
		b = b[used:]
		p, err := Search(x, length, tries)
		if p != want || err != fails || x.Left() != len(b) {
			t.Fatalf("of %d bits in %d tries: %d, error %d, %d left; asked %d, error %d, %d left", length, tries, p, err, x.Left(), want, fails, len(b))
		}
		if err == api.ErrTapeEnd {
			return
		}
	}
}
