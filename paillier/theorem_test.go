package paillier

import (
	"math/big"
	"math/rand/v2"
	"slices"
	"testing"

	"windbreak/api"
	"windbreak/prime"
)

// must takes an answer that has no error.
func must(t *testing.T) func(a api.Nat, err api.Errno) api.Nat {
	return func(a api.Nat, err api.Errno) api.Nat {
		t.Helper()
		if err != api.OK {
			t.Fatal("error", err)
		}
		return a
	}
}

// someOf are the edges of plain texts, or of hiders, of a key, and others.
func someOf(r *rand.Rand, n api.Nat, k kind) []api.Nat {
	l := []api.Nat{nil, {1}, {2}, more(n, -1), more(n, -2), limbs(new(big.Int).Rsh(number(n), 1)), drawnBelow(r, n), drawnBelow(r, n), drawnBelow(r, n)}
	return right(n, k, l)
}

// P6.5: what was encrypted is decrypted, whatever the hider is, of keys of each length; Again hides the same.
func TestThereAndBack(t *testing.T) {
	ok, rnd := must(t), rand.New(rand.NewPCG(3, 6))
	for i, k := range keys() {
		n := ok(Public(k))
		for j, m := range someOf(rnd, n, aPlain) {
			for l, r := range someOf(rnd, n, aHider) {
				if (i+j+l)%3 > 0 {
					continue // a key of many bits takes long to be looked at: each meets some
				}
				c := ok(Encrypt(n, m, r))
				if got := ok(Decrypt(k, c)); !slices.Equal(got, m) {
					t.Error(m, "behind", r, "of", k, got)
				}
				again := ok(Again(n, c, more(n, -2)))
				if got := ok(Decrypt(k, again)); !slices.Equal(got, m) || slices.Equal(again, c) {
					t.Error(m, "behind", r, "again, of", k, got)
				}
			}
		}
	}
}

// restBy is what a number leaves by n.
func restBy(v *big.Int, n api.Nat) api.Nat { return limbs(v.Mod(v, number(n))) }

// checkSum asks of two plain texts that Add and Plain hide their sum by n, and Scale their product.
func checkSum(t *testing.T, k api.Key, n, a, b, r, s api.Nat) {
	t.Helper()
	ok := must(t)
	c, d := ok(Encrypt(n, a, r)), ok(Encrypt(n, b, s))
	sum := restBy(new(big.Int).Add(number(a), number(b)), n)
	if got := ok(Decrypt(k, ok(Add(n, c, d)))); !slices.Equal(got, sum) {
		t.Error("Add:", k, a, b, r, s, got, sum)
	}
	if got := ok(Decrypt(k, ok(Plain(n, c, b)))); !slices.Equal(got, sum) {
		t.Error("Plain:", k, a, b, r, got, sum)
	}
	product := restBy(new(big.Int).Mul(number(a), number(b)), n)
	if got := ok(Decrypt(k, ok(Scale(n, c, b)))); !slices.Equal(got, product) {
		t.Error("Scale:", k, a, b, r, got, product)
	}
}

// P6.5, P3: the sums, and the products, of what is hidden, of keys of each length.
func TestHiddenSums(t *testing.T) {
	rnd := rand.New(rand.NewPCG(4, 6))
	for i, k := range keys() {
		n := of(k)
		hiders := someOf(rnd, n, aHider)
		for j, a := range someOf(rnd, n, aPlain) {
			for l, b := range someOf(rnd, n, aPlain) {
				if (i+j+l)%4 == 0 {
					checkSum(t, k, n, a, b, hiders[rnd.IntN(len(hiders))], hiders[rnd.IntN(len(hiders))])
				}
			}
		}
	}
}

// P6.5, P3: the sum of many, each behind a hider from a tape, of keys from a tape.
func TestLongSums(t *testing.T) {
	ok, rnd := must(t), rand.New(rand.NewPCG(5, 6))
	x := tapeOf(t, bytesOf(6, 60_000)...)
	for length := api.MinPrime; length <= api.MaxPrime; length += 4 {
		k, err := prime.Pair(x, length, 1000)
		if err != api.OK {
			t.Fatal(length, err)
		}
		n := ok(Public(k))
		hidden, sum := api.Nat{1}, new(big.Int)
		for range 100 {
			m := drawnBelow(rnd, n)
			hidden = ok(Add(n, hidden, ok(Draw(n, m, x))))
			sum.Add(sum, number(m))
		}
		if got := ok(Decrypt(k, hidden)); !slices.Equal(got, restBy(sum, n)) {
			t.Error("of", k, got, sum)
		}
	}
}

// P6.5: of the least key each hider hides the same, and each plain text is told.
func TestLeastKey(t *testing.T) {
	ok := must(t)
	k := api.Key{P: 131, Q: 137}
	n := of(k)
	for v := uint64(1); v < 17947; v += 5 {
		r := api.Nat{v}
		if v%131 > 0 && v%137 > 0 {
			if got := ok(Decrypt(k, ok(Encrypt(n, api.Nat{1234}, r)))); !slices.Equal(got, api.Nat{1234}) {
				t.Error("behind", v, got)
			}
		}
		if got := ok(Decrypt(k, ok(Encrypt(n, r, api.Nat{77})))); !slices.Equal(got, r) {
			t.Error(v, "behind 77:", got)
		}
	}
}

// The document's examples.
func TestExamples(t *testing.T) {
	ok := must(t)
	k := api.Key{P: 131, Q: 137}
	n := ok(Public(k))
	five := ok(Encrypt(n, api.Nat{5}, api.Nat{1}))
	ten := ok(Add(n, five, five))
	none := ok(Scale(n, five, nil))
	for _, x := range []struct {
		what      string
		got, want api.Nat
	}{
		{"n", n, api.Nat{17947}}, {"5 behind 1", five, api.Nat{89736}}, {"that decrypted", ok(Decrypt(k, five)), api.Nat{5}},
		{"twice that", ten, api.Nat{179471}}, {"what it hides", ok(Decrypt(k, ten)), api.Nat{10}},
		{"no times", none, api.Nat{1}}, {"what it hides", ok(Decrypt(k, none)), nil},
	} {
		if !slices.Equal(x.got, x.want) {
			t.Error(x.what, x.got, "asked:", x.want)
		}
	}
}
