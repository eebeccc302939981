package prime

import (
	"math/big"
	"math/rand/v2"
	"testing"

	"windbreak/api"
)

// witnesses is the promise's words by another reckoning: each power is made anew.
func witnesses(a, n uint64) bool {
	modulus := new(big.Int).SetUint64(n)
	base := new(big.Int).SetUint64(a)
	rest := func(e uint64) uint64 {
		return new(big.Int).Exp(base, new(big.Int).SetUint64(e), modulus).Uint64()
	}
	d := n - 1
	for d%2 == 0 {
		d /= 2
	}
	if rest(d) <= 1 {
		return false
	}
	for e := d; e < n-1; e *= 2 {
		if rest(e) == n-1 {
			return false
		}
	}
	return true
}

// checkWitness asks of Witness that it is the other reckoning's.
func checkWitness(t *testing.T, a, n uint64) {
	t.Helper()
	if w, err := Witness(a, n); err != api.OK || w != witnesses(a, n) {
		t.Errorf("%d of %d: %v, error %d", a, n, w, err)
	}
}

// P5.2: all small odd numbers, with all below them, and those above as far as twice n.
func TestWitness(t *testing.T) {
	for n := uint64(3); n < 200; n += 2 {
		for a := range 2*n + 3 {
			checkWitness(t, a, n)
		}
	}
}

// P5.2: numbers of all lengths, with a of all lengths.
func TestLongWitness(t *testing.T) {
	r := rand.New(rand.NewPCG(4, 5))
	for range 20_000 {
		n := r.Uint64()>>(24+r.IntN(38)) | 3
		checkWitness(t, r.Uint64()>>r.IntN(64), n)
	}
}

// P5.2: a of 0, 1, n - 1, n, multiples of n, and more than n, which count by what they leave.
func TestWitnessEdges(t *testing.T) {
	for _, n := range []uint64{3, 5, 7, 9, 15, 21, 25, 27, 81, 91, 2047, 3277, 65_535, 65_537, 1<<20 + 1, lastHalf * lastHalf, last, end - 1, end - 3, 1<<39 + 1} {
		for _, a := range []uint64{0, 1, n - 1, n, 2 * n, 7 * n, 1000 * n, n + 1, 2*n - 1, 2*n + 1} {
			if w, err := Witness(a, n); err != api.OK || w {
				t.Error(a, "of", n, w, err)
			}
			checkWitness(t, a, n)
		}
		for a := uint64(2); a < 40; a++ {
			first, _ := Witness(a, n)
			for _, more := range []uint64{n, 2 * n, 1000 * n, (1<<63)/n*n + n} {
				if w, err := Witness(a+more, n); err != api.OK || w != first {
					t.Error(a, "of", n, "and", more, "more:", w, err)
				}
			}
			checkWitness(t, a, n)
		}
		checkWitness(t, 1<<64-1, n)
	}
}

// P5.2: which numbers are witnesses of 9, 15, 27, 49 and others, and of 2047, the least that is no prime and of which 2 is none; where a later power than the first leaves 0, as of 3 by 9, that alone is no reason for false.
func TestKnownWitnesses(t *testing.T) {
	for _, c := range []struct {
		a, n uint64
		want bool
	}{
		{2, 9, true}, {3, 9, true}, {4, 9, true}, {6, 9, true}, {7, 9, true}, {8, 9, false}, {3, 27, false}, {9, 27, false}, {2, 27, true}, {12, 27, false}, {26, 27, false},
		{2, 15, true}, {4, 15, true}, {14, 15, false}, {18, 49, false}, {19, 49, false}, {30, 49, false}, {31, 49, false}, {7, 49, false}, {14, 49, false}, {2, 49, true},
		{2, 2047, false}, {3, 2047, true}, {5, 2047, true}, {2, 3277, false}, {2, 561, true}, {50, 561, false}, {7, 25, false}, {2, 25, true},
		{2, 1_373_653, false}, {3, 1_373_653, false}, {5, 1_373_653, true}, {2, 3_215_031_751, false}, {7, 3_215_031_751, false}, {11, 3_215_031_751, true},
	} {
		if w, err := Witness(c.a, c.n); err != api.OK || w != c.want {
			t.Error(c.a, "of", c.n, w, err)
		}
	}
}

// P5.2: what is below 2^40 and no prime has a witness among 2, 3, 5, 7 and 11, even those of which the first four are none; a prime has none.
func TestAmongFive(t *testing.T) {
	odd := []uint64{2047, 25_326_001, 3_215_031_751, 1_373_653, 118_670_087_467, 307_768_373_641, 315_962_312_077, 354_864_744_877, 457_453_568_161, 528_929_554_561, 546_348_519_181, 602_248_359_169}
	for n := uint64(9); n < 20_000; n += 2 {
		odd = append(odd, n)
	}
	for _, n := range odd {
		some := false
		for _, a := range []uint64{2, 3, 5, 7, 11} {
			w, err := Witness(a, n)
			if err != api.OK {
				t.Error(a, "of", n, err)
			}
			some = some || w
		}
		if some == isPrime(n) {
			t.Error("a witness of", n, some)
		}
	}
}

// P5.2: even numbers, those below 3, and 2^40 or more are none of which is asked.
func TestWrongWitness(t *testing.T) {
	for _, n := range append(tooBig(), 0, 1, 2, 4, 6, 8, 256, 2046, 2048, end-2, end/2) {
		for _, a := range []uint64{0, 1, 2, 3, n - 1, n, 1<<64 - 1} {
			if w, err := Witness(a, n); err != api.ErrArg || w {
				t.Error(a, "of", n, w, err)
			}
		}
	}
	for _, n := range []uint64{3, 9, end - 1} {
		if _, err := Witness(2, n); err != api.OK {
			t.Error("2 of", n, err)
		}
	}
}
