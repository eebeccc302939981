package prime

import (
	"math/big"
	"math/rand/v2"
	"testing"

	"windbreak/api"
)

// checkParts takes a number apart by Least, again and again: these are primes, they rise, and their product is the number.
func checkParts(t *testing.T, n uint64) {
	t.Helper()
	product, before := uint64(1), uint64(2)
	for left := n; left > 1; {
		p, err := Least(left)
		is, err2 := Is(p)
		if err != api.OK || err2 != api.OK || !is || !isPrime(p) || p < before || left%p != 0 {
			t.Fatalf("of %d the part %d: %d, errors %d, %d", n, left, p, err, err2)
		}
		product, before, left = product*p, p, left/p
	}
	if product != n {
		t.Error(n, "is not the product of its primes:", product)
	}
}

// P5.5: each number is a product of primes, of which Least is the least.
func TestProductOfPrimes(t *testing.T) {
	for n := uint64(2); n < 30_000; n++ {
		checkParts(t, n)
	}
	r := rand.New(rand.NewPCG(6, 5))
	for range 400 {
		n := r.Uint64()>>(24+r.IntN(30)) | 2
		checkParts(t, n)
		checkParts(t, end-1-n%1000)
	}
	for _, n := range []uint64{end - 1, end - 2, end / 2, last, lastHalf * lastHalf, 200_560_490_130, 963_761_198_400, 847_288_609_443} {
		checkParts(t, n) // the last ones: of the first primes, of most divisors, a power of 3
	}
}

// P5.5: no prime has a witness, of all small ones, and of others many.
func TestNoPrimeHasWitness(t *testing.T) {
	ask := func(a, p uint64) {
		if w, err := Witness(a, p); err != api.OK || w {
			t.Fatal(a, "of the prime", p, w, err)
		}
	}
	for _, p := range primesFrom(3, 150) {
		for a := range 3 * p {
			ask(a, p)
		}
	}
	r := rand.New(rand.NewPCG(7, 5))
	primes := append(somePrimes(), 3, 5, 17, 257, 65_537, 786_433, 167_772_161, 3_221_225_473, 206_158_430_209) // the last ones less 1 are halved often
	for _, p := range primes {
		if is, err := Is(p); err != api.OK || !is {
			t.Error(p, "is a prime:", is, err)
		}
		for a := range uint64(60) {
			ask(a, p)
			ask(p-a%p, p)
			ask(r.Uint64(), p)
		}
	}
}

// P5.5: what Search draws is what Is says yes to, and has as many bits as asked for; so has what Pair draws, and Check says yes to it.
func TestWhatIsDrawn(t *testing.T) {
	for length := 8; length <= 40; length++ {
		x := of(t, bytesOf(uint64(length), 20_000)...)
		for range 10 {
			p, err := Search(x, length, 1000)
			checkDrawn(t, p, length, err)
		}
		for range 5 {
			k, err := Pair(x, length, 1000)
			if err == api.ErrKey && k == (api.Key{}) && length < 16 {
				continue // of few bits the same prime comes twice now and then
			}
			checkDrawn(t, k.P, length, err)
			checkDrawn(t, k.Q, length, err)
			if Check(k) != api.OK {
				t.Error("a pair of", length, "bits:", k)
			}
		}
	}
}

// checkDrawn asks of a number that was drawn that Is says yes, and how many bits it has.
func checkDrawn(t *testing.T, p uint64, length int, err api.Errno) {
	t.Helper()
	is, fault := Is(p)
	if err != api.OK || fault != api.OK || !is || new(big.Int).SetUint64(p).BitLen() != length {
		t.Error("of", length, "bits:", p, is, err)
	}
}

// The document's examples.
func TestExamples(t *testing.T) {
	for n, want := range map[uint64]bool{2: true, 251: true, 1: false, 255: false} {
		if is, err := Is(n); err != api.OK || is != want {
			t.Error(n, "is a prime:", is, err)
		}
	}
	if d, err := Least(91); err != api.OK || d != 7 {
		t.Error("the least divisor of 91:", d, err)
	}
	if w, err := Witness(2, 9); err != api.OK || !w {
		t.Error("2 of 9:", w, err)
	}
	if w, err := Witness(2, 2047); err != api.OK || w {
		t.Error("2 of 2047:", w, err)
	}
	for q, want := range map[uint64]api.Errno{137: api.OK, 131: api.ErrKey, 257: api.ErrKey} {
		if err := Check(api.Key{P: 131, Q: q}); err != want {
			t.Error("131 and", q, err)
		}
	}
}
