package modint

import (
	"math/big"
	"math/rand/v2"
	"slices"
	"testing"

	"windbreak/api"
	"windbreak/nat"
)

// fibonacci are the two greatest neighbours of Fibonacci's that have at most so many limbs: no numbers of that size take Euclid more steps.
func fibonacci(count int) (api.Nat, api.Nat) {
	a, b := big.NewInt(1), big.NewInt(1)
	for len(limbs(new(big.Int).Add(a, b))) <= count {
		a, b = b, new(big.Int).Add(a, b)
	}
	return limbs(a), limbs(b)
}

// P3.3: the greatest common divisor, by another reckoning, also of numbers that are made with a common one.
func TestGcd(t *testing.T) {
	r := rand.New(rand.NewPCG(4, 3))
	for _, a := range sizes() {
		for _, b := range sizes() {
			g, err := Gcd(a, b)
			checkNat(t, "Gcd", g, err, limbs(new(big.Int).GCD(nil, nil, number(a), number(b))))
		}
	}
	for range 200 {
		a, b, c := drawn(r, r.IntN(30)), drawn(r, r.IntN(30)), drawn(r, 1+r.IntN(30))
		x, y := times(a, c), times(b, c)
		g, err := Gcd(x, y)
		checkNat(t, "Gcd", g, err, limbs(new(big.Int).GCD(nil, nil, number(x), number(y))))
	}
	for _, count := range []int{1, 2, 8, 64} {
		a, b := fibonacci(count)
		g, err := Gcd(a, b)
		checkNat(t, "Gcd of Fibonacci's", g, err, api.Nat{1})
	}
}

// P3.3: every pair of small numbers: what is told divides both, and no greater number does.
func TestSmallGcd(t *testing.T) {
	for a := range uint64(41) {
		for b := range uint64(41) {
			want := max(a, b)
			for want > 0 && (a%want != 0 || b%want != 0) {
				want--
			}
			g, err := Gcd(nat.Of(a), nat.Of(b))
			checkNat(t, "Gcd", g, err, nat.Of(want))
		}
	}
}

// P3.3: of 0 and b it is b, of 0 and 0 it is 0.
func TestGcdOfZero(t *testing.T) {
	for _, b := range sizes() {
		for _, zero := range []api.Nat{nil, {}} {
			g, err := Gcd(zero, b)
			checkNat(t, "of 0 and b", g, err, b)
			g, err = Gcd(b, zero)
			checkNat(t, "of b and 0", g, err, b)
		}
	}
	g, err := Gcd(nil, nil)
	checkNat(t, "of 0 and 0", g, err, nil)
}

// checkInverse asks of Inverse's answer that it is another reckoning's.
func checkInverse(t *testing.T, a, n api.Nat) {
	t.Helper()
	x, err := Inverse(a, n)
	want := new(big.Int).ModInverse(number(a), number(n))
	if want == nil {
		refusedNat(t, "Inverse of "+text(a)+" by "+text(n), x, err, api.ErrNoInverse)
	} else {
		checkNat(t, "Inverse of "+text(a)+" by "+text(n), x, err, limbs(want))
	}
}

// P3.3: inverses, also of numbers that are n, or above it.
func TestInverse(t *testing.T) {
	r := rand.New(rand.NewPCG(5, 3))
	for _, n := range sizes() {
		if nat.Cmp(n, api.Nat{2}) < 0 {
			continue
		}
		for _, a := range append(sizes(), n, less(n, 1), less(n, 2), drawn(r, len(n))) {
			checkInverse(t, a, n)
		}
		for _, more := range []api.Nat{plus(n, 1), plus(n, 2), times(n, api.Nat{2}), plus(times(n, n), 1)} {
			if nat.Right(more) {
				checkInverse(t, more, n)
			}
		}
	}
	for _, count := range []int{1, 2, 8, 63, 64} {
		a, b := fibonacci(count)
		checkInverse(t, a, b)
		checkInverse(t, b, a)
	}
}

// P3.3: all small numbers by all small moduli; what is told is below n, and leaves 1.
func TestSmallInverse(t *testing.T) {
	for n := uint64(2); n < 50; n++ {
		for a := range uint64(120) {
			var want uint64
			for want < n && a*want%n != 1 {
				want++
			}
			x, err := Inverse(nat.Of(a), nat.Of(n))
			if want == n {
				refusedNat(t, "Inverse", x, err, api.ErrNoInverse)
			} else {
				checkNat(t, "Inverse", x, err, nat.Of(want))
			}
		}
	}
}

// P3.3: by 0 and 1 it is ErrArg, of all numbers; by 2 an even number has none.
func TestInverseEdges(t *testing.T) {
	for _, a := range sizes() {
		for _, n := range []api.Nat{nil, {}, {1}} {
			x, err := Inverse(a, n)
			refusedNat(t, "by 0 and 1", x, err, api.ErrArg)
		}
		x, err := Inverse(a, api.Nat{2})
		if nat.Bit(a, 0) {
			checkNat(t, "odd by 2", x, err, api.Nat{1})
		} else {
			refusedNat(t, "even by 2", x, err, api.ErrNoInverse)
		}
	}
	for _, n := range sizes() {
		if nat.Cmp(n, api.Nat{2}) >= 0 {
			x, err := Inverse(nil, n)
			refusedNat(t, "of 0", x, err, api.ErrNoInverse)
			x, err = Inverse(n, n)
			refusedNat(t, "of n", x, err, api.ErrNoInverse)
			x, err = Inverse(api.Nat{1}, n)
			checkNat(t, "of 1", x, err, api.Nat{1})
			x, err = Inverse(less(n, 1), n)
			checkNat(t, "of n - 1", x, err, less(n, 1))
		}
	}
}

// moduli are those of the edges, and others of each length up to 8 limbs.
func moduli() []api.Nat {
	r := rand.New(rand.NewPCG(6, 3))
	l := []api.Nat{{2}, {3}, {4}, {5}, {6}, {15}, {1 << 63}, {top}, power(64), plus(power(64), 1), power(511), less(power(512), 1), less(power(512), 2)}
	for k := range api.MaxMod {
		l = append(l, drawn(r, k+1), plus(drawn(r, k+1), 2))
	}
	return slices.DeleteFunc(l, func(n api.Nat) bool { return len(n) > api.MaxMod || nat.Cmp(n, api.Nat{2}) < 0 })
}

// restsBy are rests by a modulus: the edges, and another.
func restsBy(n api.Nat) []api.Nat {
	half := limbs(new(big.Int).Rsh(number(n), 1))
	return []api.Nat{nil, {}, {1}, half, less(n, 1)}
}

// checkCrt asks of Crt's answer that it is below m times n, and leaves what it was asked for. There is but one such number.
func checkCrt(t *testing.T, a, m, b, n api.Nat) {
	t.Helper()
	x, err := Crt(a, m, b, n)
	if new(big.Int).GCD(nil, nil, number(m), number(n)).Cmp(big.NewInt(1)) != 0 {
		refusedNat(t, "Crt by "+text(m)+" and "+text(n), x, err, api.ErrNoInverse)
		return
	}
	v := number(x)
	left := func(n api.Nat) api.Nat { return limbs(new(big.Int).Mod(v, number(n))) }
	if err != api.OK || !nat.Right(x) || v.Cmp(number(times(m, n))) >= 0 || !slices.Equal(left(m), a) || !slices.Equal(left(n), b) {
		t.Error("Crt:", text(a), text(m), text(b), text(n), "tells", text(x), err)
	}
}

// P3.3: rests put together, by moduli of up to 8 limbs, with common divisors and without.
func TestCrt(t *testing.T) {
	for _, m := range moduli() {
		for _, n := range moduli() {
			for _, a := range restsBy(m) {
				for _, b := range restsBy(n) {
					checkCrt(t, a, m, b, n)
				}
			}
		}
	}
}

// P3.3: every number below a product of small moduli is told by its rests.
func TestSmallCrt(t *testing.T) {
	for m := uint64(2); m < 14; m++ {
		for n := uint64(2); n < 14; n++ {
			common := new(big.Int).GCD(nil, nil, big.NewInt(int64(m)), big.NewInt(int64(n))).Int64() > 1
			for v := range m * n {
				x, err := Crt(nat.Of(v%m), nat.Of(m), nat.Of(v%n), nat.Of(n))
				if common {
					refusedNat(t, "a common divisor", x, err, api.ErrNoInverse)
				} else {
					checkNat(t, "Crt", x, err, nat.Of(v))
				}
			}
		}
	}
}

// P3.3: moduli below 2, or of more than 8 limbs, and numbers that are no rests, are ErrArg, of each of the two, and ahead of ErrNoInverse.
func TestCrtOfWrong(t *testing.T) {
	long, great := power(512), less(power(512), 1)
	pairs := [][2]api.Nat{
		{nil, nil}, {nil, {1}}, {{1}, nil}, {{1}, {1}}, {{2}, {1}}, {nil, long}, {{1}, long}, {nil, plus(long, 1)}, {{1}, filled(9, 1)}, {nil, filled(64, top)},
		{{2}, {2}}, {{3}, {2}}, {{5}, {5}}, {{6}, {5}}, {{top}, {5}}, {power(64), {5}}, {filled(64, top), {5}},
		{great, great}, {long, great}, {power(64), power(64)}, {plus(power(64), 1), power(64)},
	}
	for _, w := range wrongSizes() {
		pairs = append(pairs, [2]api.Nat{w, {5}}, [2]api.Nat{nil, w}, [2]api.Nat{w, w}, [2]api.Nat{w, nil}, [2]api.Nat{w, long})
	}
	for _, p := range pairs {
		for _, good := range [][2]api.Nat{{nil, {2}}, {{1}, {5}}, {less(great, 1), great}, {nil, power(511)}} {
			x, err := Crt(p[0], p[1], good[0], good[1])
			refusedNat(t, "ahead", x, err, api.ErrArg)
			x, err = Crt(good[0], good[1], p[0], p[1])
			refusedNat(t, "behind", x, err, api.ErrArg)
		}
		x, err := Crt(p[0], p[1], p[0], p[1])
		refusedNat(t, "both", x, err, api.ErrArg)
	}
}

// P3.3: the longest moduli that may be: of 8 limbs both, so that what is told has 16.
func TestLongCrt(t *testing.T) {
	m, n := less(power(512), 1), less(power(512), 2)
	x, err := Crt(less(m, 1), m, less(n, 1), n)
	checkNat(t, "the greatest one", x, err, less(times(m, n), 1))
	x, err = Crt(api.Nat{5}, m, api.Nat{5}, n)
	checkNat(t, "5 by both", x, err, api.Nat{5})
	x, err = Crt(nil, m, api.Nat{1}, power(511))
	checkNat(t, "a multiple of m", x, err, times(m, less(power(511), 1)))
	x, err = Crt(api.Nat{1}, n, api.Nat{1}, power(511))
	refusedNat(t, "both even", x, err, api.ErrNoInverse)
}

// P3.3: what may not be is ErrArg, ahead of all else.
func TestWrongNumbers(t *testing.T) {
	for _, w := range wrongSizes() {
		for _, a := range append(sizes(), wrongSizes()...) {
			for _, call := range []func(a, b api.Nat) (api.Nat, api.Errno){Gcd, Inverse} {
				x, err := call(w, a)
				refusedNat(t, "ahead", x, err, api.ErrArg)
				x, err = call(a, w)
				refusedNat(t, "behind", x, err, api.ErrArg)
			}
		}
	}
}
