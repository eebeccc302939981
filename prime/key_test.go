package prime

import (
	"bytes"
	"math/big"
	"slices"
	"testing"

	"windbreak/api"
)

// keyFault is the promise's words on a key by another reckoning.
func keyFault(p, q uint64) api.Errno {
	for _, n := range []uint64{p, q} {
		if n < 1<<7 || n >= 1<<40 || !isPrime(n) {
			return api.ErrKey
		}
	}
	x, y := new(big.Int).SetUint64(p), new(big.Int).SetUint64(q)
	less, most := new(big.Int).SetUint64(p-1), new(big.Int).SetUint64(q-1)
	common := new(big.Int).GCD(nil, nil, new(big.Int).Mul(x, y), new(big.Int).Mul(less, most))
	if p == q || x.BitLen() != y.BitLen() || common.Cmp(big.NewInt(1)) != 0 {
		return api.ErrKey
	}
	return api.OK
}

// P5.4: all pairs of numbers from 0 to 300.
func TestSmallKeys(t *testing.T) {
	for p := range uint64(301) {
		for q := range uint64(301) {
			if err := Check(api.Key{P: p, Q: q}); err != keyFault(p, q) {
				t.Error(p, q, err)
			}
		}
	}
}

// P5.4: pairs of primes of all lengths, in both orders; just those of as many bits, and not the same, may be.
func TestKeys(t *testing.T) {
	primes := somePrimes()
	for i, p := range primes {
		for _, q := range primes[max(0, i-8):min(len(primes), i+9)] {
			if err := Check(api.Key{P: p, Q: q}); err != keyFault(p, q) {
				t.Error(p, q, err)
			}
		}
		if err := Check(api.Key{P: p, Q: p}); err != api.ErrKey {
			t.Error("the same twice:", p, err)
		}
	}
}

// P5.4: keys that may be: at the edges of the least and of the greatest lengths.
func TestRightKeys(t *testing.T) {
	for _, k := range []api.Key{{P: 131, Q: 137}, {P: 137, Q: 131}, {P: 131, Q: 251}, {P: 251, Q: 131}, {P: 257, Q: 509}, {P: 257, Q: 263}, {P: 1<<31 - 1, Q: 1073741827},
		{P: last, Q: primesDown(last-1, 1)[0]}, {P: primesFrom(1<<39, 1)[0], Q: last}, {P: 1<<39 - 7, Q: primesFrom(1<<38, 1)[0]}} {
		if err := Check(k); err != api.OK {
			t.Error(k, err)
		}
	}
}

// P5.4: primes below 2^7, primes and others of 2^40 and more, numbers that are no primes, on both sides and on one.
func TestWrongKeys(t *testing.T) {
	small := append(primesFrom(2, 31), 0, 1)
	if slices.Max(small) != 127 {
		t.Error("not all primes below 2^7:", small)
	}
	none := []uint64{128, 129, 133, 143, 169, 253, 255, 561, 2047, 65_535, 1<<31 + 1, lastHalf * lastHalf, end - 1}
	big := append(tooBig(), primesFrom(1<<40, 3)...)
	big = append(big, primesDown(1<<41-1, 2)...)
	for _, l := range [][]uint64{small, none, big} {
		for i, n := range l {
			for _, other := range append(primesNear(n), 131, 137, 257, last, l[(i+1)%len(l)]) {
				for _, k := range []api.Key{{P: n, Q: other}, {P: other, Q: n}, {P: n, Q: n}} {
					if err := Check(k); err != api.ErrKey {
						t.Error(k, err)
					}
				}
			}
		}
	}
}

// primesNear are primes of as many bits as a number has, if there are such, so that nothing but the number itself is wrong with a key.
func primesNear(n uint64) []uint64 {
	length := new(big.Int).SetUint64(n).BitLen()
	if length < 3 || length > 63 {
		return nil
	}
	return append(primesFrom(1<<(length-1), 3), primesDown(1<<length-1, 3)...)
}

// P5.4: primes that have not as many bits, neighbours among them; those of which one divides the other less 1.
func TestUnlikeKeys(t *testing.T) {
	for length := 8; length < 40; length++ {
		p, q := primesDown(1<<length-1, 1)[0], primesFrom(1<<length, 1)[0]
		if Check(api.Key{P: p, Q: q}) != api.ErrKey || Check(api.Key{P: q, Q: p}) != api.ErrKey {
			t.Error("neighbours of unlike lengths:", p, q)
		}
	}
	for _, k := range []api.Key{{P: 131, Q: 263}, {P: 137, Q: 823}, {P: 173, Q: 347}, {P: 251, Q: 503}, {P: 131, Q: 1049}, {P: 131, Q: 257}, {P: 131, Q: last}, {P: 549_755_813_911, Q: 131}} {
		if !isPrime(k.P) || !isPrime(k.Q) {
			t.Error("no primes:", k)
		}
		if Check(k) != api.ErrKey || Check(api.Key{P: k.Q, Q: k.P}) != api.ErrKey {
			t.Error("unlike ones:", k)
		}
	}
}

// What apart is asked, alone: primes of which one divides the other less 1 are not.
func TestApart(t *testing.T) {
	for _, p := range []uint64{131, 137, 173, 251, 257, 1031} {
		for _, q := range primesFrom(128, 300) {
			if got := apart(api.Key{P: p, Q: q}); got != (q%p != 1 && p%q != 1) {
				t.Error(p, q, got)
			}
		}
	}
	if apart(api.Key{P: last, Q: last - 1}) {
		t.Error("a number and that less 1 are not apart")
	}
}

// P5.4: a pair is one search's number, and the next one's.
func TestPair(t *testing.T) {
	for length := 8; length <= 40; length++ {
		for seed := range uint64(6) {
			all := bytesOf(1000*seed+uint64(length), 3000)
			p, first, err1 := script(all, length, 200)
			q, second, err2 := script(all[first:], length, 200)
			if err1 != api.OK || err2 != api.OK || p == q {
				continue
			}
			x := of(t, all...)
			if k, err := Pair(x, length, 200); err != api.OK || k != (api.Key{P: p, Q: q}) {
				t.Error("of", length, "bits:", k, err, "asked:", p, q)
			}
			left(t, "behind a pair", x, all[first+second:])
		}
	}
}

// P5.4: each search has its own tries; the first error of both is the pair's, and what the tries took is used.
func TestPairFails(t *testing.T) {
	for _, c := range []struct {
		bytes []byte
		tries int
		want  api.Key
		err   api.Errno
		left  []byte
	}{
		{[]byte{3, 9, 5}, 1, api.Key{P: 131, Q: 137}, api.OK, []byte{5}},
		{[]byte{4, 3, 4, 9, 5}, 2, api.Key{P: 131, Q: 137}, api.OK, []byte{5}},
		{[]byte{9, 3}, 10_000, api.Key{P: 137, Q: 131}, api.OK, nil},
		{[]byte{4, 3, 9}, 1, api.Key{}, api.ErrPrimeNone, []byte{3, 9}},
		{[]byte{4, 4, 3, 9}, 2, api.Key{}, api.ErrPrimeNone, []byte{3, 9}},
		{[]byte{3, 4, 9}, 1, api.Key{}, api.ErrPrimeNone, []byte{9}},
		{[]byte{4, 3, 4, 4, 9}, 2, api.Key{}, api.ErrPrimeNone, []byte{9}},
		{nil, 1, api.Key{}, api.ErrTapeEnd, nil},
		{[]byte{4}, 2, api.Key{}, api.ErrTapeEnd, nil},
		{[]byte{3}, 1, api.Key{}, api.ErrTapeEnd, nil},
		{[]byte{3, 4}, 2, api.Key{}, api.ErrTapeEnd, nil},
		{[]byte{3, 3, 9}, 1, api.Key{}, api.ErrKey, []byte{9}},
		{[]byte{2, 131, 9}, 5, api.Key{}, api.ErrKey, []byte{9}},
		{[]byte{4, 3, 4, 3, 9}, 2, api.Key{}, api.ErrKey, []byte{9}},
	} {
		x := of(t, c.bytes...)
		if k, err := Pair(x, 8, c.tries); err != c.err || k != c.want {
			t.Error("of", c.bytes, "in", c.tries, "tries:", k, err, "asked:", c.want, c.err)
		}
		left(t, "behind a pair", x, c.left)
	}
}

// P5.4: the same long prime twice, and a tape that ends within the second one's bytes.
func TestLongPairFails(t *testing.T) {
	b := bytesFor(last, 40)
	x := of(t, slices.Concat(b, b, []byte{7})...)
	if k, err := Pair(x, 40, 1); err != api.ErrKey || k != (api.Key{}) {
		t.Error("the same twice:", k, err)
	}
	left(t, "behind the same", x, []byte{7})
	x = of(t, append(b, b[:4]...)...)
	if k, err := Pair(x, 40, 1); err != api.ErrTapeEnd || k != (api.Key{}) {
		t.Error("the tape ends:", k, err)
	}
	left(t, "behind the end", x, b[:4])
	x = of(t, bytes.Repeat([]byte{0, 0, 0, 0, 0}, 10_000)...)
	if k, err := Pair(x, 40, 10_000); err != api.ErrPrimeNone || k != (api.Key{}) || x.Left() != 0 {
		t.Error("no primes:", k, err, x.Left())
	}
}
