package hist

import (
	"fmt"
	"math"
	"math/rand/v2"
	"slices"
	"strings"
	"sync"
	"testing"

	"windbreak/api"
	"windbreak/nat"
)

// roomy is a list with things behind its end, as a piece of a longer one has.
func roomy[T any](l []T, behind ...T) []T { return append(slices.Clone(l), behind...)[:len(l)] }

// whole is all that a list has, in the room behind its end too.
func whole[T any](l []T) string { return fmt.Sprintln(len(l), l[:cap(l)]) }

// spoil overwrites all that a list of numbers could reach, behind its end too.
func spoil[T int | uint64](l []T) {
	l = l[:cap(l)]
	for i := range l {
		l[i] ^= 0x55
	}
}

func spoilAll(l []api.Nat) {
	l = l[:cap(l)]
	for i := range l {
		spoil(l[i])
		l[i] = api.Nat{99}
	}
}

// given is what the calls are given, all of whose lists are roomy.
type given struct {
	x    api.Table
	rows api.Bits
	g    []int
	n    api.Nat
	c    []api.Nat
}

func roomyGiven(x api.Table, rows api.Bits, g []int, n api.Nat, c []api.Nat) given {
	x = api.Table{Ids: roomy(x.Ids, 71, 72), Bins: roomy(x.Bins, 73, 74), Cols: roomy(x.Cols, []int{75}, []int{76})}
	for i, column := range x.Cols {
		x.Cols[i] = roomy(column, 77, 78)
	}
	c = roomy(c, api.Nat{79}, api.Nat{80})
	for i, one := range c {
		c[i] = roomy(one, 81, 82)
	}
	return given{x, api.Bits{N: rows.N, W: roomy(rows.W, 83, 84)}, roomy(g, 85, 86), roomy(n, 87, 88), c}
}

// text is all that was given, behind the lists' ends too.
func (a given) text() string {
	text := whole(a.x.Ids) + whole(a.x.Bins) + fmt.Sprintln(len(a.x.Cols), a.rows.N) + whole(a.rows.W) + whole(a.g) + whole(a.n) + fmt.Sprintln(len(a.c))
	for _, column := range a.x.Cols[:cap(a.x.Cols)] {
		text += whole(column)
	}
	for _, one := range a.c[:cap(a.c)] {
		text += whole(one)
	}
	return text
}

// spoil overwrites all that was given.
func (a given) spoil() {
	spoil(a.x.Ids)
	spoil(a.x.Bins)
	for _, column := range a.x.Cols {
		spoil(column)
	}
	clear(a.x.Cols)
	spoil(a.rows.W)
	spoil(a.g)
	spoil(a.n)
	spoilAll(a.c)
}

// answers are all that is told of what is given.
type answers struct {
	cuts   []api.Cut
	sums   []api.Sum
	hidden []api.Nat
	less   []api.Nat
	errs   []api.Errno
}

func (a given) ask() answers {
	var told answers
	keep := func(err api.Errno) { told.errs = append(told.errs, err) }
	told.cuts = Cuts(a.x)
	sums, err := Plain(a.x, a.rows, a.g)
	keep(err)
	hidden, err := Cipher(a.n, a.x, a.rows, a.c)
	keep(err)
	told.sums, told.hidden = sums, hidden
	for i, c := range a.c {
		less, err := Less(a.n, c, a.c[len(a.c)-1-i])
		keep(err)
		told.less = append(told.less, less)
	}
	return told
}

// spoil overwrites all that was told.
func (a answers) spoil() {
	for i := range a.cuts[:cap(a.cuts)] {
		a.cuts[:cap(a.cuts)][i] = api.Cut{Feature: 91, Cut: 92}
	}
	for i := range a.sums[:cap(a.sums)] {
		a.sums[:cap(a.sums)][i] = api.Sum{G: 93, H: 94}
	}
	spoilAll(a.hidden)
	spoilAll(a.less)
}

func (a answers) text() string { return fmt.Sprintf("%v", a) }

// someGiven are many, right ones and such as are wrong at one place.
func someGiven() []given {
	r := seeded(14)
	var all []given
	for i := range 60 {
		count := []int{0, 1, 2, 3, 8, 64, 70}[i%7]
		n := bases()[i%len(bases())]
		a := roomyGiven(someTable(r, count, 1+r.IntN(3)), someRows(r, count), someNumbers(r, count), n, someCiphers(r, n, count))
		switch {
		case i%5 == 4:
			a.x = wrongTables()[i]
		case i%7 == 6:
			a.rows = wrongRows(count)[i%10]
		case i%11 == 5:
			a.n = wrongBases()[i%20]
		case i%13 == 12 && count > 0:
			a.g[0], a.c[0] = 1<<20+1, noCiphers(n)[i%10]
		}
		all = append(all, a)
	}
	return all
}

// told is all that is told of all of these.
func told() string {
	var text strings.Builder
	for _, a := range someGiven() {
		text.WriteString(a.ask().text())
	}
	return text.String()
}

// R2: nil and empty are the same, handed in.
func TestNilAndEmpty(t *testing.T) {
	n := api.Nat{17947}
	nils := api.Table{}
	empties := api.Table{Ids: []int{}, Bins: []int{}, Cols: [][]int{}}
	noRows := api.Table{Bins: []int{3, 2}, Cols: [][]int{nil, {}}}
	for _, x := range []api.Table{nils, empties, noRows} {
		for _, w := range [][]uint64{nil, {}} {
			for _, g := range [][]int{nil, {}} {
				if sums, err := Plain(x, api.Bits{W: w}, g); err != api.OK || !slices.Equal(sums, make([]api.Sum, len(Cuts(x)))) {
					t.Error(x, w, g, sums, err)
				}
			}
			for _, c := range [][]api.Nat{nil, {}} {
				if products, err := Cipher(n, x, api.Bits{W: w}, c); err != api.OK || !sameLists(products, slices.Repeat([]api.Nat{{1}}, len(Cuts(x)))) {
					t.Error(x, w, c, products, err)
				}
			}
		}
	}
	x, rows := example()
	for _, none := range []api.Nat{nil, {}} {
		isNoHidden(t, none, x, rows, []api.Nat{{1}, {1}, {1}}, api.ErrArg)
		isNoHidden(t, n, x, rows, []api.Nat{{1}, {1}, none}, api.ErrCipher)
		isNoLess(t, none, api.Nat{1}, api.Nat{1}, api.ErrArg)
		isNoLess(t, n, none, api.Nat{1}, api.ErrCipher)
		isNoLess(t, n, api.Nat{1}, none, api.ErrCipher)
	}
	isNoPlain(t, x, rows, []int{}, api.ErrArg)
	isNoHidden(t, n, x, rows, []api.Nat{}, api.ErrArg)
	isNoPlain(t, x, api.Bits{N: 3, W: []uint64{}}, []int{1, 2, 3}, api.ErrArg)
}

// R3: what is handed in stays as it is, behind its end too, right and wrong; and what is told is shared with none of it.
func TestHandedInStays(t *testing.T) {
	for _, a := range someGiven() {
		before := a.text()
		a.ask().spoil()
		if a.text() != before {
			t.Fatal("changed:", a.text(), "before:", before)
		}
	}
}

// R3: what was told stays as it is when what was handed in changes, and when other answers do.
func TestToldIsOwn(t *testing.T) {
	for _, a := range someGiven() {
		first := a.ask()
		want := first.text()
		a.ask().spoil()
		if first.text() != want || a.ask().text() != want {
			t.Fatal("an answer changed with another one:", want)
		}
		a.spoil()
		if first.text() != want {
			t.Fatal("an answer changed with what was handed in:", want)
		}
	}
}

// R3: no two numbers of one answer share memory, those of no rows, which all are 1, among them.
func TestNumbersAreApart(t *testing.T) {
	r := seeded(15)
	n := of(keys()[3])
	for _, count := range []int{1, 2, 9} {
		x := someTable(r, count, 3)
		c := someCiphers(r, n, count)
		for _, rows := range []api.Bits{setOf(count), setOf(count, 0), setOf(count, rising(count)...)} {
			want, _ := Cipher(n, x, rows, c)
			for at := range want {
				got, _ := Cipher(n, x, rows, c)
				spoil(got[at])
				for i := range got {
					if i != at && !slices.Equal(got[i], want[i]) {
						t.Fatal("numbers", at, "and", i, "share memory")
					}
				}
			}
		}
	}
}

// R4: the same is told whatever was asked ahead, and by many that ask at one time.
func TestNothingKept(t *testing.T) {
	want := told()
	x, rows := example()
	for _, wrong := range wrongTables() {
		Cuts(wrong)
		Plain(wrong, rows, nil)
	}
	for _, n := range bases() {
		Cipher(n, x, rows, edgeCiphers(n)[:3])
		Less(n, api.Nat{1}, more(n, 1))
	}
	if told() != want {
		t.Error("another answer behind other calls")
	}
	var wait sync.WaitGroup
	var all [8]string
	for i := range all {
		wait.Go(func() { all[i] = told() })
	}
	wait.Wait()
	for i := range all {
		if all[i] != want {
			t.Error("another answer at one time with others")
		}
	}
}

// anyNumber is small, about an edge, or far out of range.
func anyNumber(r *rand.Rand) int {
	edges := []int{math.MinInt, -1 << 20, 0, 1, 2, 16, 32, 64, 256, 1 << 20, 1 << 30, math.MaxInt}
	switch r.IntN(4) {
	case 0:
		return edges[r.IntN(len(edges))] + r.IntN(3) - 1
	case 1:
		return far()[r.IntN(len(far()))]
	}
	return r.IntN(6) - 1
}

// anyLimbs are a number's, or any.
func anyLimbs(r *rand.Rand) api.Nat {
	l := make(api.Nat, r.IntN(6))
	for i := range l {
		l[i] = []uint64{0, 1, top, r.Uint64N(20000), r.Uint64()}[r.IntN(5)]
	}
	return l
}

// change spoils one thing of what is given.
func (a *given) change(r *rand.Rand) {
	n := anyNumber(r)
	put := func(l []int) {
		if len(l) > 0 {
			l[r.IntN(len(l))] = n
		}
	}
	switch r.IntN(11) {
	case 0:
		put(a.x.Ids)
	case 1:
		put(a.x.Bins)
	case 2:
		if len(a.x.Cols) > 0 {
			put(a.x.Cols[0])
		}
	case 3:
		a.x.Ids = append(a.x.Ids, n)
	case 4:
		a.rows.N = n
	case 5:
		a.rows.W = append(a.rows.W, uint64(n))
	case 6:
		if len(a.rows.W) > 0 {
			a.rows.W[0] = uint64(n)
		}
	case 7:
		put(a.g)
	case 8:
		a.g, a.c = append(a.g, n), append(a.c, api.Nat{1})
	case 9:
		a.n = anyLimbs(r)
	case 10:
		if len(a.c) > 0 {
			a.c[r.IntN(len(a.c))] = anyLimbs(r)
		}
	}
}

// check asks all calls against the other reckoning.
func (a given) check(t testing.TB) {
	t.Helper()
	checkCuts(t, a.x)
	checkPlain(t, a.x, a.rows, a.g)
	checkCipher(t, a.n, a.x, a.rows, a.c)
	for i, c := range a.c {
		checkLess(t, a.n, c, a.c[len(a.c)-1-i])
	}
}

// P1: no call panics, whatever it is given.
func TestAnyArguments(t *testing.T) {
	r := seeded(16)
	told := map[api.Errno]int{}
	for i := range 4000 {
		count := r.IntN(6)
		n := bases()[i%len(bases())]
		a := roomyGiven(someTable(r, count, r.IntN(3)), someRows(r, count), someNumbers(r, count), n, someCiphers(r, n, count))
		for range r.IntN(4) {
			a.change(r)
		}
		a.check(t)
		for _, err := range a.ask().errs[:2] {
			told[err]++
		}
	}
	for _, err := range []api.Errno{api.OK, api.ErrArg, api.ErrCipher, api.ErrTable} {
		if told[err] < 50 {
			t.Error("how often each error was told:", told)
		}
	}
}

// FuzzSums looks for arguments at which a call panics, or tells another thing than another reckoning.
func FuzzSums(f *testing.F) {
	f.Add([]byte{0x46, 0x1b}, []byte{0, 1, 1}, 2, 3, uint64(3), 5, 6, []byte{1, 94, 136}, []byte{1})
	f.Add(nat.Bytes(twoTo(80, -1)), []byte{0, 31, 30, 7}, 32, 4, uint64(9), 1<<20, -1<<20, nat.Bytes(twoTo(159, 1)), nat.Bytes(twoTo(79, 1)))
	f.Add([]byte{1}, []byte{}, 1, math.MinInt, top, math.MinInt, math.MaxInt, []byte{}, []byte{0})
	f.Fuzz(func(t *testing.T, base, bins []byte, count, rows int, word uint64, g, h int, c, d []byte) {
		n, _ := nat.Read(base)
		one, _ := nat.Read(c)
		other, _ := nat.Read(d)
		bins = bins[:min(len(bins), 70)]
		column, turned := make([]int, len(bins)), make([]int, len(bins))
		numbers, hidden := make([]int, len(bins)), make([]api.Nat, len(bins))
		for i, bin := range bins {
			column[i], turned[len(bins)-1-i] = int(bin), int(bin)>>3
			numbers[i], hidden[i] = []int{g, h}[i%2], []api.Nat{one, other}[i/2%2]
		}
		x := api.Table{Ids: rising(len(bins)), Bins: []int{count, 32}, Cols: [][]int{column, turned}}
		words := append([]uint64{word}, make([]uint64, max(0, (len(bins)-1)/64))...)
		given{x, api.Bits{N: rows, W: words}, numbers, n, hidden}.check(t)
		x = api.Table{Ids: x.Ids, Bins: x.Bins[1:], Cols: x.Cols[1:]}
		words[0] &= setOf(len(bins)+1, rising(len(bins))...).W[0]
		given{x, api.Bits{N: len(bins), W: words}, numbers, n, hidden}.check(t)
		checkLess(t, n, one, other)
	})
}
