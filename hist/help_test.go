package hist

import (
	"fmt"
	"math"
	"math/big"
	"math/rand/v2"
	"slices"
	"testing"

	"windbreak/api"
	"windbreak/nat"
)

const top = ^uint64(0)

// seeded is a source that is the same for the same seed.
func seeded(seed uint64) *rand.Rand { return rand.New(rand.NewPCG(seed, 19)) }

// far are numbers far out of each range.
func far() []int {
	return []int{math.MinInt, math.MinInt + 1, -1 << 62, -1 << 32, 1 << 32, 1<<32 + 1, 1 << 62, math.MaxInt - 1, math.MaxInt}
}

// rising are the numbers below n.
func rising(n int) []int {
	l := make([]int, n)
	for i := range l {
		l[i] = i
	}
	return l
}

// table is one of the ids from 0 on, with columns of as many bins each.
func table(bins int, columns ...[]int) api.Table {
	t := api.Table{Cols: columns}
	for _, column := range columns {
		t.Ids = rising(len(column))
		t.Bins = append(t.Bins, bins)
	}
	return t
}

// bare is a table of so many rows and no columns.
func bare(rows int) api.Table { return api.Table{Ids: rising(rows)} }

// example is the chapter's.
func example() (api.Table, api.Bits) { return table(2, []int{0, 1, 1}), setOf(3, 0, 1) }

// someTable has so many rows, whose ids are in no order, and so many columns: of 2 bins, of 32, or of some between; of any numbers, or all in one bin.
func someTable(r *rand.Rand, rows, columns int) api.Table {
	t := api.Table{Ids: r.Perm(rows)}
	apart := []int{1, 7, 4210752}[r.IntN(3)] // the last one times 255 is near to 2^30
	for i := range t.Ids {
		t.Ids[i] *= apart
	}
	for range columns {
		bins := []int{2, 32, 2 + r.IntN(31)}[r.IntN(3)]
		least, most := 0, bins-1
		if r.IntN(5) == 0 {
			least = r.IntN(bins)
			most = least
		}
		column := make([]int, rows)
		for i := range column {
			column[i] = least + r.IntN(most-least+1)
		}
		t.Bins = append(t.Bins, bins)
		t.Cols = append(t.Cols, column)
	}
	return t
}

// setOf is the set of some numbers below n, by the words of the document's layer of sets.
func setOf(n int, l ...int) api.Bits {
	s := api.Bits{N: n, W: make([]uint64, (n+63)/64)}
	for _, i := range l {
		s.W[i/64] |= 1 << (i % 64)
	}
	return s
}

// someRows are some of n: none, all, one, or any; restOf are those that are not among some.
func someRows(r *rand.Rand, n int) api.Bits {
	switch {
	case n == 0 || r.IntN(6) == 0:
		return setOf(n)
	case r.IntN(5) == 0:
		return setOf(n, rising(n)...)
	case r.IntN(5) == 0:
		return setOf(n, r.IntN(n))
	}
	return setOf(n, r.Perm(n)[:r.IntN(n+1)]...)
}

func restOf(s api.Bits) api.Bits {
	var l []int
	for i := range s.N {
		if !hasRow(s, i) {
			l = append(l, i)
		}
	}
	return setOf(s.N, l...)
}

func hasRow(s api.Bits, i int) bool { return s.W[i/64]>>(i%64)&1 == 1 }

// someNumbers are so many that may be a row's: at the edges, near to 0, or any.
func someNumbers(r *rand.Rand, count int) []int {
	l := make([]int, count)
	for i := range l {
		l[i] = []int{-1 << 20, 1 << 20, r.IntN(7) - 3, r.IntN(1<<21+1) - 1<<20}[r.IntN(4)]
	}
	return l
}

// number is limbs as a number of another reckoning than the program's own; limbs is back again.
func number(a api.Nat) *big.Int { return new(big.Int).SetBytes(nat.Bytes(a)) }

func limbs(v *big.Int) api.Nat {
	a, _ := nat.Read(v.Bytes())
	return a
}

// more is a number and so many more, or less; times is so many times it; twoTo is 2 to the power of a number, and so many more; squareOf is n times n.
func more(a api.Nat, by int64) api.Nat {
	v := number(a)
	return limbs(v.Add(v, big.NewInt(by)))
}

func times(a api.Nat, by uint64) api.Nat {
	return limbs(new(big.Int).Mul(number(a), new(big.Int).SetUint64(by)))
}

func twoTo(n int, by int64) api.Nat {
	return more(limbs(new(big.Int).Lsh(big.NewInt(1), uint(n))), by)
}

func squareOf(n api.Nat) *big.Int {
	v := number(n)
	return v.Mul(v, v)
}

// keys are of primes of 8 bits, 9, 20, 32, 33 and 40.
func keys() []api.Key {
	return []api.Key{{P: 131, Q: 137}, {P: 257, Q: 509}, {P: 1048571, Q: 524309}, {P: 4294967291, Q: 4294967279}, {P: 4294967311, Q: 8589934583}, {P: 1099511627689, Q: 1099511627563}}
}

// of is a key's public part.
func of(k api.Key) api.Nat { return times(api.Nat{k.P}, k.Q) }

// bases are numbers that may be public keys: those of the keys, and others that are no product of two primes.
func bases() []api.Nat {
	all := []api.Nat{twoTo(14, 1), twoTo(15, -1), {129 * 129}, {255255}, {3486784401}, {top}, {1, 1}, twoTo(79, 1), twoTo(80, -1)}
	for _, k := range keys() {
		all = append(all, of(k))
	}
	return all
}

// wrongBases are numbers that may not be public keys, and limbs that are no number's: too short, too long, even, with noughts on top.
func wrongBases() []api.Nat {
	return []api.Nat{nil, {}, {0}, {1}, {2}, {131}, twoTo(14, -1), twoTo(14, 0), {17946}, {17948}, {top - 1}, {0, 1}, twoTo(80, -2), twoTo(80, 0), twoTo(80, 1), {1, top}, {1, 0, 1},
		{17947, 0}, {17947, 0, 0}, {1, 1, 0}, slices.Repeat(api.Nat{top}, 64), slices.Repeat(api.Nat{1}, 65), append(make(api.Nat, 1000), 3)}
}

// mayBase and isCipher are whether a number may be a public key, and is a cipher text of it, by the document's words.
func mayBase(n api.Nat) bool {
	v := number(n)
	return slices.Equal(limbs(v), n) && v.Bit(0) == 1 && v.BitLen() >= 15 && v.BitLen() <= 80
}

func isCipher(n, c api.Nat) bool {
	v := number(c)
	if !slices.Equal(limbs(v), c) || v.Sign() == 0 || v.Cmp(squareOf(n)) >= 0 {
		return false
	}
	return v.GCD(nil, nil, v, number(n)).Cmp(big.NewInt(1)) == 0
}

// edgeCiphers are the least and the greatest cipher texts, and those about n.
func edgeCiphers(n api.Nat) []api.Nat {
	all := limbs(squareOf(n))
	return []api.Nat{{1}, {2}, more(n, -1), more(n, 1), more(times(n, 5), 1), more(all, -2), more(all, -1), limbs(new(big.Int).Sub(number(more(all, 1)), number(n)))}
}

// noCiphers are numbers that are no cipher texts of n, and limbs that are no number's.
func noCiphers(n api.Nat) []api.Nat {
	all := limbs(squareOf(n))
	none := []api.Nat{nil, {}, n, times(n, 2), limbs(new(big.Int).Sub(number(all), number(n))), all, more(all, 1), more(all, 2), times(all, 3), slices.Repeat(api.Nat{top}, 64),
		{0}, {1, 0}, {5, 0, 0}, {1, 1, 0}, append(slices.Clone(n), 0), slices.Repeat(api.Nat{1}, 65), append(slices.Repeat(api.Nat{1}, 63), 0), append(make(api.Nat, 1000), 3)}
	for _, k := range keys() {
		if slices.Equal(of(k), n) {
			p, q := api.Nat{k.P}, api.Nat{k.Q}
			none = append(none, p, q, times(p, 2), times(q, k.P-1), times(n, k.P), times(n, k.Q), times(times(n, k.P-1), k.Q))
		}
	}
	return none
}

// someCiphers are so many: at the edges, the same ones again, or any.
func someCiphers(r *rand.Rand, n api.Nat, count int) []api.Nat {
	edges, all := edgeCiphers(n), squareOf(n)
	l := make([]api.Nat, 0, count)
	for len(l) < count {
		c := edges[r.IntN(len(edges))]
		if r.IntN(3) > 0 {
			c = limbs(new(big.Int).Mod(number(api.Nat{r.Uint64(), r.Uint64(), r.Uint64()}), all))
		}
		if isCipher(n, c) {
			l = append(l, slices.Clone(c))
		}
	}
	return l
}

// mayTable and mayRows are whether a table may be, and a set is rows of it, by the document's words.
func mayTable(t api.Table) bool {
	if len(t.Ids) > 256 || len(t.Cols) > 16 || len(t.Bins) != len(t.Cols) {
		return false
	}
	for i, id := range t.Ids {
		if id < 0 || id > 1<<30 || slices.Contains(t.Ids[:i], id) {
			return false
		}
	}
	for i, column := range t.Cols {
		if t.Bins[i] < 2 || t.Bins[i] > 32 || len(column) != len(t.Ids) {
			return false
		}
		for _, bin := range column {
			if bin < 0 || bin >= t.Bins[i] {
				return false
			}
		}
	}
	return true
}

func mayRows(t api.Table, rows api.Bits) bool {
	if rows.N != len(t.Ids) || len(rows.W) != (rows.N+63)/64 {
		return false
	}
	for i := rows.N; i < 64*len(rows.W); i++ {
		if hasRow(rows, i) {
			return false
		}
	}
	return true
}

// wantCuts are what P19.1 asks for; of a table that may not be, none.
func wantCuts(t api.Table) []api.Cut {
	var all []api.Cut
	for feature := 0; mayTable(t) && feature < len(t.Cols); feature++ {
		for cut := 0; cut < t.Bins[feature]-1; cut++ {
			all = append(all, api.Cut{Feature: feature, Cut: cut})
		}
	}
	return all
}

// isLeft is whether a row is among rows, and to the left of a cut.
func isLeft(t api.Table, rows api.Bits, cut api.Cut, row int) bool {
	return hasRow(rows, row) && t.Cols[cut.Feature][row] <= cut.Cut
}

// wantPlain is what P19.1 asks for, row by row.
func wantPlain(t api.Table, rows api.Bits, g []int) ([]api.Sum, api.Errno) {
	if !mayTable(t) {
		return nil, api.ErrTable
	}
	if !mayRows(t, rows) || len(g) != len(t.Ids) || len(g) > 0 && (slices.Min(g) < -1048576 || slices.Max(g) > 1048576) {
		return nil, api.ErrArg
	}
	var all []api.Sum
	for _, cut := range wantCuts(t) {
		var sum api.Sum
		for row := range g {
			if isLeft(t, rows, cut, row) {
				sum = api.Sum{G: sum.G + g[row], H: sum.H + 1}
			}
		}
		all = append(all, sum)
	}
	return all, api.OK
}

// wantCipher is what P19.2 asks for, by another reckoning.
func wantCipher(n api.Nat, t api.Table, rows api.Bits, c []api.Nat) ([]api.Nat, api.Errno) {
	if !mayBase(n) {
		return nil, api.ErrArg
	}
	if !mayTable(t) {
		return nil, api.ErrTable
	}
	if !mayRows(t, rows) || len(c) != len(t.Ids) {
		return nil, api.ErrArg
	}
	for _, one := range c {
		if !isCipher(n, one) {
			return nil, api.ErrCipher
		}
	}
	var all []api.Nat
	for _, cut := range wantCuts(t) {
		product := big.NewInt(1)
		for row := range c {
			if isLeft(t, rows, cut, row) {
				product.Mul(product, number(c[row])).Mod(product, squareOf(n))
			}
		}
		all = append(all, limbs(product))
	}
	return all, api.OK
}

// wantLess is what P19.3 asks for, by another reckoning.
func wantLess(n, c, d api.Nat) (api.Nat, api.Errno) {
	if !mayBase(n) {
		return nil, api.ErrArg
	}
	if !isCipher(n, c) || !isCipher(n, d) {
		return nil, api.ErrCipher
	}
	all := squareOf(n)
	v := new(big.Int).ModInverse(number(d), all)
	return limbs(v.Mul(v, number(c)).Mod(v, all)), api.OK
}

func sameLists(a, b []api.Nat) bool {
	return slices.EqualFunc(a, b, func(x, y api.Nat) bool { return slices.Equal(x, y) })
}

// checkCuts, checkPlain, checkCipher and checkLess ask a call against those.
func checkCuts(t testing.TB, x api.Table) {
	t.Helper()
	if got, want := Cuts(x), wantCuts(x); !slices.Equal(got, want) {
		t.Errorf("Cuts(%s): %v; asked %v", brief(x), got, want)
	}
}

func checkPlain(t testing.TB, x api.Table, rows api.Bits, g []int) {
	t.Helper()
	got, err := Plain(x, rows, g)
	if want, fails := wantPlain(x, rows, g); err != fails || !slices.Equal(got, want) {
		t.Errorf("Plain(%s, %s, %s): %s, error %d; asked %s, error %d", brief(x), brief(rows), brief(g), brief(got), err, brief(want), fails)
	}
}

func checkCipher(t testing.TB, n api.Nat, x api.Table, rows api.Bits, c []api.Nat) {
	t.Helper()
	got, err := Cipher(n, x, rows, c)
	if want, fails := wantCipher(n, x, rows, c); err != fails || !sameLists(got, want) {
		t.Errorf("Cipher(%s, %s, %s, %s): %s, error %d; asked %s, error %d", brief(n), brief(x), brief(rows), brief(c), brief(got), err, brief(want), fails)
	}
}

func checkLess(t testing.TB, n, c, d api.Nat) {
	t.Helper()
	got, err := Less(n, c, d)
	if want, fails := wantLess(n, c, d); err != fails || !slices.Equal(got, want) {
		t.Errorf("Less(%s, %s, %s): %v, error %d; asked %v, error %d", brief(n), brief(c), brief(d), got, err, want, fails)
	}
}

// isPlain and isHidden ask of a call that it tells just these; isNoPlain, isNoHidden and isNoLess that it is an error, and tells nothing beside it.
func isPlain(t testing.TB, x api.Table, rows api.Bits, g []int, want ...api.Sum) {
	t.Helper()
	if got, err := Plain(x, rows, g); err != api.OK || !slices.Equal(got, want) {
		t.Errorf("Plain(%s, %s, %s): %v, error %d; asked %v", brief(x), brief(rows), brief(g), got, err, want)
	}
	checkPlain(t, x, rows, g)
}

func isHidden(t testing.TB, n api.Nat, x api.Table, rows api.Bits, c []api.Nat, want ...api.Nat) {
	t.Helper()
	if got, err := Cipher(n, x, rows, c); err != api.OK || !sameLists(got, want) {
		t.Errorf("Cipher(%v, %s, %s, %s): %v, error %d; asked %v", n, brief(x), brief(rows), brief(c), got, err, want)
	}
	checkCipher(t, n, x, rows, c)
}

func isNoPlain(t testing.TB, x api.Table, rows api.Bits, g []int, want api.Errno) {
	t.Helper()
	if got, err := Plain(x, rows, g); err != want || got != nil {
		t.Errorf("Plain(%s, %s, %s): %v, error %d; asked error %d", brief(x), brief(rows), brief(g), got, err, want)
	}
	checkPlain(t, x, rows, g)
}

func isNoHidden(t testing.TB, n api.Nat, x api.Table, rows api.Bits, c []api.Nat, want api.Errno) {
	t.Helper()
	if got, err := Cipher(n, x, rows, c); err != want || got != nil {
		t.Errorf("Cipher(%s, %s, %s, %s): %v, error %d; asked error %d", brief(n), brief(x), brief(rows), brief(c), got, err, want)
	}
	checkCipher(t, n, x, rows, c)
}

func isNoLess(t testing.TB, n, c, d api.Nat, want api.Errno) {
	t.Helper()
	if got, err := Less(n, c, d); err != want || got != nil {
		t.Errorf("Less(%s, %s, %s): %v, error %d; asked error %d", brief(n), brief(c), brief(d), got, err, want)
	}
	checkLess(t, n, c, d)
}

// brief tells a thing, or its beginning, if it is long.
func brief(x any) string {
	text := fmt.Sprintf("%+v", x)
	return text[:min(len(text), 400)]
}
