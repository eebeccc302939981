package hist

import (
	"math/big"
	"math/rand/v2"
	"slices"
	"testing"

	"windbreak/api"
	"windbreak/paillier"
	"windbreak/tape"
)

// someTape is one of so many bytes.
func someTape(t testing.TB, r *rand.Rand, count int) *tape.Tape {
	t.Helper()
	b := make([]byte, count)
	for i := range b {
		b[i] = byte(r.Uint32())
	}
	x, err := tape.New(b)
	if err != api.OK {
		t.Fatal("a tape:", err)
	}
	return x
}

// hidden are numbers, each hidden behind a hider of a tape.
func hidden(t testing.TB, n api.Nat, m []*big.Int, from *tape.Tape) []api.Nat {
	t.Helper()
	l := make([]api.Nat, len(m))
	for row, number := range m {
		c, err := paillier.Draw(n, limbs(number), from)
		if err != api.OK {
			t.Fatal("hidden:", number, err)
		}
		l[row] = c
	}
	return l
}

// somePlains are so many numbers below n: at its edges, small, or any.
func somePlains(r *rand.Rand, n api.Nat, count int) []*big.Int {
	l := make([]*big.Int, count)
	for i := range l {
		v := number([]api.Nat{nil, {1}, {r.Uint64N(10)}, more(n, -1), {r.Uint64(), r.Uint64()}}[r.IntN(5)])
		l[i] = v.Mod(v, number(n))
	}
	return l
}

// checkHides asks of what is hidden, cut by cut, that it is the sum by n of the numbers of those rows that are to the left.
func checkHides(t testing.TB, k api.Key, x api.Table, rows api.Bits, m []*big.Int, sums []api.Nat) {
	t.Helper()
	cuts := wantCuts(x)
	if len(sums) != len(cuts) {
		t.Fatal(len(sums), "sums of", len(cuts), "cuts")
	}
	for i, cut := range cuts {
		want := new(big.Int)
		for row := range m {
			if isLeft(x, rows, cut, row) {
				want.Add(want, m[row])
			}
		}
		want.Mod(want, number(of(k)))
		got, err := paillier.Decrypt(k, sums[i])
		if err != api.OK || number(got).Cmp(want) != 0 {
			t.Errorf("of %+v, at %+v of %s, of rows %v: hides %v, error %d; asked %v", k, cut, brief(x), rows, number(got), err, want)
		}
	}
}

// sumsOf are the hidden sums, which must be.
func sumsOf(t testing.TB, n api.Nat, x api.Table, rows api.Bits, c []api.Nat) []api.Nat {
	t.Helper()
	sums, err := Cipher(n, x, rows, c)
	if err != api.OK {
		t.Fatal("Cipher:", brief(x), rows, err)
	}
	return sums
}

// lessAll are one list's less another one's.
func lessAll(t testing.TB, n api.Nat, c, d []api.Nat) []api.Nat {
	t.Helper()
	l := make([]api.Nat, len(c))
	for i := range c {
		less, err := Less(n, c[i], d[i])
		if err != api.OK {
			t.Fatal("Less:", c[i], d[i], err)
		}
		l[i] = less
	}
	return l
}

// split parts rows in two, each anywhere.
func split(r *rand.Rand, rows api.Bits) (one, other api.Bits) {
	one, other = setOf(rows.N), setOf(rows.N)
	for i := range rows.W {
		chance := r.Uint64()
		one.W[i], other.W[i] = rows.W[i]&chance, rows.W[i]&^chance
	}
	return one, other
}

// cases calls a function with each key, and with some tables, rows and hidden numbers of each; of great keys with fewer, as it takes long to tell what they hide.
func cases(t *testing.T, seed uint64, each func(r *rand.Rand, k api.Key, x api.Table, rows api.Bits, m []*big.Int, c []api.Nat)) {
	r := seeded(seed)
	for i, k := range keys() {
		n := of(k)
		for _, count := range []int{0, 1, 2, 3, 9, 40, 64, 65, 256} {
			if count > 9 && i > 2 && (count+i)%2 > 0 {
				continue
			}
			x := someTable(r, count, 1+r.IntN(3-i/2))
			m := somePlains(r, n, count)
			each(r, k, x, someRows(r, count), m, hidden(t, n, m, someTape(t, r, 30*count)))
			each(r, k, x, setOf(count, rising(count)...), m, hidden(t, n, m, someTape(t, r, 30*count)))
		}
	}
}

// P19.4: what Cipher of hidden numbers hides is the sum, by n, of those of the rows to the left.
func TestTheoremOfSums(t *testing.T) {
	cases(t, 8, func(r *rand.Rand, k api.Key, x api.Table, rows api.Bits, m []*big.Int, c []api.Nat) {
		checkHides(t, k, x, rows, m, sumsOf(t, of(k), x, rows, c))
	})
}

// P19.4: what Cipher hides does not hang on the hiders.
func TestTheoremOfHiders(t *testing.T) {
	r := seeded(9)
	for _, k := range keys()[:3] {
		n := of(k)
		x, rows := someTable(r, 20, 2), someRows(r, 20)
		m := somePlains(r, n, 20)
		for range 4 {
			checkHides(t, k, x, rows, m, sumsOf(t, n, x, rows, hidden(t, n, m, someTape(t, r, 600))))
		}
		bare := make([]api.Nat, 20)
		for i := range bare {
			bare[i], _ = paillier.Encrypt(n, limbs(m[i]), api.Nat{1})
		}
		checkHides(t, k, x, rows, m, sumsOf(t, n, x, rows, bare))
	}
}

// P19.4: a node's sums less those of one child are the other child's, whichever it is: they hide the same, and are the same products.
func TestTheoremOfLess(t *testing.T) {
	cases(t, 10, func(r *rand.Rand, k api.Key, x api.Table, rows api.Bits, m []*big.Int, c []api.Nat) {
		n := of(k)
		one, other := split(r, rows)
		all, ones, others := sumsOf(t, n, x, rows, c), sumsOf(t, n, x, one, c), sumsOf(t, n, x, other, c)
		if got := lessAll(t, n, all, ones); !sameLists(got, others) {
			t.Error("less one child's sums:", brief(x), rows, one)
		}
		got := lessAll(t, n, all, others)
		if !sameLists(got, ones) {
			t.Error("less the other child's sums:", brief(x), rows, other)
		}
		if len(m) < 50 {
			checkHides(t, k, x, one, m, got)
		}
	})
}

// P19.4: children as a split makes them: the rows to the left of a cut, and the others.
func TestTheoremOfChildren(t *testing.T) {
	r := seeded(11)
	for _, k := range keys()[:4] {
		n := of(k)
		x := someTable(r, 30, 2)
		m := somePlains(r, n, 30)
		c := hidden(t, n, m, someTape(t, r, 900))
		rows := setOf(30, r.Perm(30)[:25]...)
		all := sumsOf(t, n, x, rows, c)
		for _, cut := range []api.Cut{{}, {Feature: 1}, {Feature: 1, Cut: x.Bins[1] - 2}} {
			left, right := setOf(30), setOf(30)
			for row := range 30 {
				switch {
				case isLeft(x, rows, cut, row):
					left.W[0] |= 1 << row
				case hasRow(rows, row):
					right.W[0] |= 1 << row
				}
			}
			checkHides(t, k, x, right, m, lessAll(t, n, all, sumsOf(t, n, x, left, c)))
			checkHides(t, k, x, left, m, lessAll(t, n, all, sumsOf(t, n, x, right, c)))
		}
	}
}

// P19.4: Less hides the difference by n, of any two that are hidden.
func TestTheoremOfDifferences(t *testing.T) {
	r := seeded(12)
	for _, k := range keys() {
		n := of(k)
		m := append([]*big.Int{big.NewInt(0), big.NewInt(1), number(more(n, -1))}, somePlains(r, n, 5)...)
		c := hidden(t, n, m, someTape(t, r, 300))
		for i := range c {
			for j := range c {
				d, err := Less(n, c[i], c[j])
				got, _ := paillier.Decrypt(k, d)
				want := new(big.Int).Sub(m[i], m[j])
				if err != api.OK || number(got).Cmp(want.Mod(want, number(n))) != 0 {
					t.Error("of", k, m[i], "less", m[j], got, err)
				}
				back, err := paillier.Add(n, d, c[j])
				if err != api.OK || !slices.Equal(back, c[i]) {
					t.Error("of", k, "what was taken away, added again:", back, err)
				}
			}
		}
	}
}

// P19.1, P19.4: hidden numbers and plain ones of the same rows have the same sums.
func TestTheoremOfBoth(t *testing.T) {
	r := seeded(13)
	for _, k := range keys()[2:4] {
		n := of(k)
		for _, count := range []int{1, 5, 33, 64, 100} {
			x, rows, g := someTable(r, count, 2), someRows(r, count), someNumbers(r, count)
			m := make([]*big.Int, count)
			for i := range m {
				m[i] = new(big.Int).Mod(big.NewInt(int64(g[i])), number(n))
			}
			sums, err := Plain(x, rows, g)
			hides := sumsOf(t, n, x, rows, hidden(t, n, m, someTape(t, r, 30*count)))
			if err != api.OK || len(sums) != len(hides) {
				t.Fatal(len(sums), len(hides), err)
			}
			for i, sum := range sums {
				got, _ := paillier.Decrypt(k, hides[i])
				want := new(big.Int).Mod(big.NewInt(int64(sum.G)), number(n))
				if number(got).Cmp(want) != 0 {
					t.Error("of", k, brief(x), "plain", sum, "hidden", got)
				}
			}
		}
	}
}
