package hist

import (
	"slices"
	"testing"

	"windbreak/api"
)

// P19.2: the products of many tables and public keys, of rows of all kinds.
func TestCipher(t *testing.T) {
	r := seeded(4)
	for i, x := range manyTables() {
		rows := len(x.Ids)
		for j, n := range bases() {
			if rows*len(x.Cols) > 100 && (i+j)%5 > 0 {
				continue // the other reckoning takes long
			}
			checkCipher(t, n, x, someRows(r, rows), someCiphers(r, n, rows))
			checkCipher(t, n, x, setOf(rows), someCiphers(r, n, rows))
			checkCipher(t, n, x, setOf(rows, rising(rows)...), someCiphers(r, n, rows))
		}
	}
}

// P19.2: each product by itself: cut by cut, of the rows alone; 1 of no rows.
func TestCipherByHand(t *testing.T) {
	x := api.Table{Ids: []int{9, 2, 7, 4}, Bins: []int{3, 2}, Cols: [][]int{{0, 1, 2, 1}, {1, 0, 1, 0}}}
	n := api.Nat{17947}
	c := []api.Nat{{2}, {3}, {5}, {7}}
	isHidden(t, n, x, setOf(4, 0, 1, 2, 3), c, api.Nat{2}, api.Nat{42}, api.Nat{21})
	isHidden(t, n, x, setOf(4), c, api.Nat{1}, api.Nat{1}, api.Nat{1})
	isHidden(t, n, x, setOf(4, 3), c, api.Nat{1}, api.Nat{7}, api.Nat{7})
	isHidden(t, n, x, setOf(4, 0, 2), c, api.Nat{2}, api.Nat{2}, api.Nat{1})
	most := more(limbs(squareOf(n)), -1) // times itself it is 1, by n times n
	isHidden(t, n, x, setOf(4, 1, 3), []api.Nat{{2}, most, {5}, most}, api.Nat{1}, api.Nat{1}, api.Nat{1})
	isHidden(t, n, x, setOf(4, 0, 1, 3), []api.Nat{most, most, {5}, most}, most, most, api.Nat{1})
	isHidden(t, n, x, setOf(4, 0, 1), []api.Nat{{89736}, {89736}, {5}, {7}}, api.Nat{89736}, api.Nat{179471}, api.Nat{89736})
	isHidden(t, n, bare(2), setOf(2, 0, 1), c[:2])
	isHidden(t, n, api.Table{}, api.Bits{}, nil)
	isHidden(t, n, api.Table{Bins: []int{3}, Cols: [][]int{nil}}, api.Bits{}, nil, api.Nat{1}, api.Nat{1})
}

// P19.2: the greatest cipher texts of the greatest public key, of all rows.
func TestCipherOfGreatest(t *testing.T) {
	n := twoTo(80, -1)
	c := []api.Nat{more(limbs(squareOf(n)), -1)}
	x := table(32, make([]int, 255), rising(255))
	for row := range x.Cols[1] {
		x.Cols[1][row] %= 32
	}
	all := setOf(255, rising(255)...)
	got, err := Cipher(n, x, all, slices.Repeat(c, 255))
	if err != api.OK || len(got) != 62 || !slices.Equal(got[0], c[0]) {
		t.Error(brief(got), err)
	}
	checkCipher(t, n, x, all, slices.Repeat(c, 255))
}

// P19.2: every small table, every set of its rows.
func TestCipherOfAllSmall(t *testing.T) {
	n := api.Nat{17947}
	c := []api.Nat{{89736}, {2}, more(limbs(squareOf(n)), -1), {17946}}
	smallTables(3, func(x api.Table, rows api.Bits) { checkCipher(t, n, x, rows, c[:len(x.Ids)]) })
}

// P19.2: each cipher text at its bounds and out of them, be its row among the rows or not.
func TestCipherAtBounds(t *testing.T) {
	for _, n := range bases() {
		for _, x := range []api.Table{table(2, []int{0, 1, 1}), bare(3)} {
			for place := range 3 {
				for _, rows := range []api.Bits{setOf(3), setOf(3, place), restOf(setOf(3, place)), setOf(3, 0, 1, 2)} {
					c := []api.Nat{{1}, {1}, {1}}
					for _, one := range edgeCiphers(n) {
						if isCipher(n, one) {
							c[place] = one
							checkCipher(t, n, x, rows, c)
						}
					}
					for _, none := range noCiphers(n) {
						c[place] = none
						isNoHidden(t, n, x, rows, c, api.ErrCipher)
					}
				}
			}
		}
	}
}

// P19.2: a public key that may not be is ErrArg, ahead of all else, of a table that may not be too.
func TestCipherOfWrongBases(t *testing.T) {
	x, rows := example()
	for _, n := range wrongBases() {
		for _, c := range [][]api.Nat{{{1}, {1}, {1}}, {{0}, nil, {131}}, nil} {
			isNoHidden(t, n, x, rows, c, api.ErrArg)
			isNoHidden(t, n, api.Table{}, api.Bits{}, c, api.ErrArg)
			isNoHidden(t, n, table(1, []int{0, 0, 0}), rows, c, api.ErrArg)
		}
	}
}

// P19.2: a table that may not be is ErrTable, ahead of rows that are none, and of cipher texts that are too few, or none.
func TestCipherOfWrongTables(t *testing.T) {
	n := api.Nat{17947}
	for _, x := range wrongTables() {
		count := len(x.Ids)
		for _, rows := range []api.Bits{setOf(count), setOf(count, rising(count)...), setOf(count + 1), {}, {N: -1}} {
			for _, c := range [][]api.Nat{slices.Repeat([]api.Nat{{1}}, count), nil, make([]api.Nat, count), make([]api.Nat, count+1)} {
				isNoHidden(t, n, x, rows, c, api.ErrTable)
			}
		}
	}
}

// P19.2: rows that are none of the table are ErrArg, ahead of what is no cipher text.
func TestCipherOfWrongRows(t *testing.T) {
	r := seeded(5)
	n := api.Nat{17947}
	for _, count := range []int{0, 1, 3, 63, 64, 65, 128, 256} {
		x := someTable(r, count, 2)
		for _, rows := range wrongRows(count) {
			isNoHidden(t, n, x, rows, someCiphers(r, n, count), api.ErrArg)
			isNoHidden(t, n, x, rows, make([]api.Nat, count), api.ErrArg)
			if rows.N >= 0 && rows.N < 1000 {
				isNoHidden(t, n, x, rows, someCiphers(r, n, rows.N), api.ErrArg)
			}
		}
	}
}

// P19.2: one of c too few, one too many and many too many are ErrArg, ahead of what is no cipher text.
func TestCipherOfWrongCounts(t *testing.T) {
	r := seeded(6)
	n := of(keys()[3])
	for _, rows := range []int{0, 1, 2, 3, 64, 256} {
		x := someTable(r, rows, 2)
		for _, count := range []int{0, 1, rows - 1, rows + 1, rows + 64, 257, 1000} {
			if count < 0 || count == rows {
				continue
			}
			for _, c := range [][]api.Nat{someCiphers(r, n, count), make([]api.Nat, count), slices.Repeat([]api.Nat{n}, count)} {
				isNoHidden(t, n, x, setOf(rows), c, api.ErrArg)
				isNoHidden(t, n, x, setOf(rows, rising(rows)...), c, api.ErrArg)
			}
		}
	}
}

// P19.3: of many cipher texts, the edges among them.
func TestLess(t *testing.T) {
	r := seeded(7)
	for _, n := range bases() {
		l := slices.Concat(edgeCiphers(n), someCiphers(r, n, 8))
		for _, c := range l {
			for _, d := range l {
				checkLess(t, n, c, d)
			}
		}
	}
}

// P19.3: each by itself.
func TestLessByHand(t *testing.T) {
	n := api.Nat{17947}
	for _, e := range []struct{ c, d, want uint64 }{
		{1, 1, 1}, {89736, 1, 89736}, {1, 89736, 322005075}, {179471, 89736, 89736}, {89736, 179471, 322005075}, {6, 3, 2}, {2, 322094808, 322094807}, {322094808, 322094808, 1},
	} {
		if got, err := Less(n, api.Nat{e.c}, api.Nat{e.d}); err != api.OK || !slices.Equal(got, api.Nat{e.want}) {
			t.Error(e, got, err)
		}
		checkLess(t, n, api.Nat{e.c}, api.Nat{e.d})
	}
}

// P19.3: one that is no cipher text, on either side, and on both.
func TestLessOfNoCiphers(t *testing.T) {
	for _, n := range bases() {
		for _, none := range noCiphers(n) {
			isNoLess(t, n, none, api.Nat{1}, api.ErrCipher)
			isNoLess(t, n, api.Nat{1}, none, api.ErrCipher)
			isNoLess(t, n, none, none, api.ErrCipher)
			isNoLess(t, n, none, more(n, 1), api.ErrCipher)
			isNoLess(t, n, more(n, 1), none, api.ErrCipher)
		}
	}
}

// P19.3: a public key that may not be is ErrArg, ahead of what is no cipher text.
func TestLessOfWrongBases(t *testing.T) {
	for _, n := range wrongBases() {
		for _, l := range [][2]api.Nat{{{1}, {1}}, {nil, {1}}, {{1}, nil}, {nil, {0}}, {{5, 0}, {131}}} {
			isNoLess(t, n, l[0], l[1], api.ErrArg)
		}
	}
}
