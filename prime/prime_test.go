package prime

import (
	"math/rand/v2"
	"testing"

	"windbreak/api"
)

// checkNumber asks Is and Least of a number, whose least divisor above 1 is known; it is 0 of 0 and 1.
func checkNumber(t *testing.T, n, divisor uint64) {
	t.Helper()
	if is, err := Is(n); err != api.OK || is != (n >= 2 && divisor == n) {
		t.Errorf("%d is a prime: %v, error %d; its least divisor is %d", n, is, err, divisor)
	}
	want := api.OK
	if n < 2 {
		want = api.ErrArg
	}
	if d, err := Least(n); err != want || d != divisor {
		t.Errorf("the least divisor of %d: %d, error %d; asked %d", n, d, err, divisor)
	}
}

// P5.1: each number below 2^17, by crossing out.
func TestSmallNumbers(t *testing.T) {
	for n, divisor := range sieved(1 << 17) {
		checkNumber(t, uint64(n), divisor)
	}
}

// P5.1: numbers by their words: what divides them, from 2 to n - 1, is tried one by one.
func TestByTheWords(t *testing.T) {
	for n := uint64(2); n < 3000; n++ {
		d := uint64(2)
		for n%d != 0 {
			d++
		}
		checkNumber(t, n, d)
	}
}

// P5.1: the edges that are named: 0, 1, 2, the greatest prime below 2^40, and 2^40 - 1.
func TestEdges(t *testing.T) {
	for _, c := range []struct{ n, divisor uint64 }{
		{0, 0}, {1, 0}, {2, 2}, {3, 3}, {4, 2}, {5, 5}, {6, 2}, {7, 7}, {8, 2}, {9, 3}, {15, 3}, {25, 5}, {35, 5}, {49, 7}, {77, 7}, {91, 7}, {121, 11},
		{last, last}, {end - 1, 3}, {end - 2, 2}, {end - 3, 13}, {1<<31 - 1, 1<<31 - 1}, {1<<32 + 1, 641}, {1<<32 - 5, 1<<32 - 5}, {1<<39 - 7, 1<<39 - 7},
	} {
		checkNumber(t, c.n, c.divisor)
	}
	for n := last + 1; n < end; n++ {
		if is, err := Is(n); err != api.OK || is {
			t.Error(n, "above the greatest prime:", is, err)
		}
	}
}

// P5.1: squares of primes, whose only divisor is the last one to be tried, and products of two that are neighbours, or far from each other.
func TestSquaresAndProducts(t *testing.T) {
	primes := append(primesFrom(2, 300), primesDown(lastHalf, 20)...)
	for i, p := range primes {
		checkNumber(t, p*p, p)
		if i > 0 && p*primes[i-1] < end {
			checkNumber(t, p*primes[i-1], min(p, primes[i-1]))
		}
		far := primesDown((end-1)/p, 1)[0]
		checkNumber(t, p*far, min(p, far))
	}
	if lastHalf*lastHalf >= end || primesFrom(lastHalf+1, 1)[0] < 1<<20 {
		t.Error("not the greatest prime below 2^20")
	}
}

// P5.1: cubes, and numbers of more than two primes, of which the least is told.
func TestManyPrimes(t *testing.T) {
	r := rand.New(rand.NewPCG(2, 5))
	primes := primesFrom(2, 150)
	for range 2000 {
		n, divisor := uint64(1), end
		for range 2 + r.IntN(6) {
			if p := primes[r.IntN(len(primes))]; n*p < end {
				n, divisor = n*p, min(divisor, p)
			}
		}
		checkNumber(t, n, divisor)
	}
	for _, p := range primes {
		for power := p; power < end; power *= p {
			checkNumber(t, power, p)
		}
	}
}

// P5.1: numbers of all lengths, at the lengths' edges and within, by another reckoning; even ones, whose least divisor is 2.
func TestLongNumbers(t *testing.T) {
	r := rand.New(rand.NewPCG(3, 5))
	ask := func(n uint64) {
		if is, err := Is(n); err != api.OK || is != isPrime(n) {
			t.Error(n, "is a prime:", is, err)
		}
		d, err := Least(n)
		if err != api.OK || d < 2 || n%d != 0 || !isPrime(d) || (d == n) != isPrime(n) || n%2 == 0 && d != 2 {
			t.Error("the least divisor of", n, d, err)
		}
	}
	for length := 8; length <= 40; length++ {
		high := uint64(1) << length
		for i := range uint64(40) {
			ask(high - 1 - i)
			ask(high/2 + i)
			ask(high/2 + r.Uint64N(high/2))
		}
	}
	for _, p := range somePrimes() {
		checkNumber(t, p, p)
	}
}

// P5.1: 2^40 and more are none of which is asked, nor is Least of 0 and 1.
func TestWrongNumbers(t *testing.T) {
	for _, n := range tooBig() {
		if is, err := Is(n); err != api.ErrArg || is {
			t.Error(n, "is a prime:", is, err)
		}
		if d, err := Least(n); err != api.ErrArg || d != 0 {
			t.Error("the least divisor of", n, d, err)
		}
	}
	for n := range uint64(2) {
		if d, err := Least(n); err != api.ErrArg || d != 0 {
			t.Error("the least divisor of", n, d, err)
		}
	}
}

// What is ranged over rises, has each prime as far as its square goes, and stops when it is left.
func TestDivisors(t *testing.T) {
	for _, n := range []uint64{0, 1, 2, 3, 4, 5, 8, 9, 10, 24, 25, 26, 48, 49, 120, 121, 10_000, 999_999, 1_000_000} {
		before := uint64(1)
		has := map[uint64]int{}
		for d := range divisors(n) {
			if d <= before || d*d > n {
				t.Error("of", n, d, "behind", before)
			}
			before = d
			has[d]++
		}
		for _, p := range primesFrom(2, 200) {
			if (has[p] == 1) != (p*p <= n) {
				t.Error("of", n, p, has[p])
			}
		}
	}
	count := 0
	for d := range divisors(end) {
		if count++; d == 7 {
			break
		}
	}
	if count != 4 {
		t.Error("up to 7:", count)
	}
}
