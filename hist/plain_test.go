package hist

import (
	"slices"
	"testing"

	"windbreak/api"
)

// P19.1: the sums of many tables, of rows of all kinds.
func TestPlain(t *testing.T) {
	r := seeded(2)
	for _, x := range manyTables() {
		n := len(x.Ids)
		for range 4 {
			checkPlain(t, x, someRows(r, n), someNumbers(r, n))
		}
		for _, g := range [][]int{make([]int, n), slices.Repeat([]int{1 << 20}, n), slices.Repeat([]int{-1 << 20}, n)} {
			checkPlain(t, x, setOf(n), g)
			checkPlain(t, x, setOf(n, rising(n)...), g)
		}
	}
}

// P19.1: each sum by itself: cut by cut, of the rows alone.
func TestPlainByHand(t *testing.T) {
	x := api.Table{Ids: []int{9, 2, 7, 4, 1 << 30}, Bins: []int{3, 2}, Cols: [][]int{{0, 1, 2, 1, 0}, {1, 0, 1, 0, 1}}}
	g := []int{1, 10, 100, 1000, -10000}
	isPlain(t, x, setOf(5, 0, 1, 2, 3, 4), g, api.Sum{G: -9999, H: 2}, api.Sum{G: -8989, H: 4}, api.Sum{G: 1010, H: 2})
	isPlain(t, x, setOf(5), g, api.Sum{}, api.Sum{}, api.Sum{})
	isPlain(t, x, setOf(5, 0), g, api.Sum{G: 1, H: 1}, api.Sum{G: 1, H: 1}, api.Sum{})
	isPlain(t, x, setOf(5, 2), g, api.Sum{}, api.Sum{}, api.Sum{})
	isPlain(t, x, setOf(5, 3, 4), g, api.Sum{G: -10000, H: 1}, api.Sum{G: -9000, H: 2}, api.Sum{G: 1000, H: 1})
	isPlain(t, bare(3), setOf(3, 0, 1), []int{1, 2, 3})
	isPlain(t, api.Table{}, api.Bits{}, nil)
	isPlain(t, api.Table{Bins: []int{3}, Cols: [][]int{nil}}, api.Bits{}, nil, api.Sum{}, api.Sum{})
	isPlain(t, table(2, make([]int, 256)), setOf(256, rising(256)...), slices.Repeat([]int{-1 << 20}, 256), api.Sum{G: -1 << 28, H: 256})
}

// smallTables calls a function with every table of one column of up to so many rows and of 2 to 4 bins, with every set of its rows.
func smallTables(most int, each func(x api.Table, rows api.Bits)) {
	for n := range most + 1 {
		for bins := 2; bins <= 4; bins++ {
			codes := 1
			for range n {
				codes *= bins
			}
			for code := range codes {
				x := api.Table{Ids: rising(n), Bins: []int{bins}, Cols: [][]int{make([]int, n)}}
				for row := range n {
					x.Cols[0][row] = code % bins
					code /= bins
				}
				for word := range 1 << n {
					rows := setOf(n)
					if n > 0 {
						rows.W[0] = uint64(word)
					}
					each(x, rows)
				}
			}
		}
	}
}

// P19.1: every small table, every set of its rows.
func TestPlainOfAllSmall(t *testing.T) {
	smallTables(4, func(x api.Table, rows api.Bits) {
		checkCuts(t, x)
		checkPlain(t, x, rows, []int{1, -10, 100, 1000}[:len(x.Ids)])
	})
}

// wrongRows are no rows of a table of so many ids: of one less, of one more, and words that are no set's.
func wrongRows(n int) []api.Bits {
	all := []api.Bits{setOf(n + 1), setOf(n+1, n), setOf(n + 64), setOf(65536), {N: -1}, {N: n, W: make([]uint64, (n+63)/64+1)}, {N: n, W: append(setOf(n, rising(n)...).W, 0)}, {N: n, W: append(setOf(n).W, top)}}
	for _, far := range far() {
		all = append(all, api.Bits{N: far, W: setOf(n).W})
	}
	if n > 0 {
		all = append(all, setOf(n-1), setOf(n-1, rising(n-1)...), api.Bits{}, api.Bits{N: n}, api.Bits{N: n, W: make([]uint64, (n+63)/64-1)}, api.Bits{N: n - 1, W: setOf(n).W})
	}
	if n%64 > 0 {
		for _, bits := range []uint64{1 << (n % 64), 1 << 63, top} {
			s := setOf(n)
			s.W[n/64] |= bits
			all = append(all, s)
		}
	}
	return all
}

// P19.1: rows that are none of the table.
func TestPlainOfWrongRows(t *testing.T) {
	r := seeded(3)
	for _, x := range manyTables() {
		n := len(x.Ids)
		for _, rows := range wrongRows(n) {
			if rows.N == n && mayRows(x, rows) {
				t.Error("rows, by the other reckoning:", n, rows)
			}
			isNoPlain(t, x, rows, someNumbers(r, n), api.ErrArg)
			if rows.N >= 0 && rows.N < 1000 {
				isNoPlain(t, x, rows, make([]int, rows.N), api.ErrArg)
			}
		}
	}
}

// P19.1: a number of g too few and one too many, and many too many.
func TestPlainOfWrongCounts(t *testing.T) {
	for _, x := range manyTables() {
		n := len(x.Ids)
		for _, rows := range []api.Bits{setOf(n), setOf(n, rising(n)...)} {
			for _, count := range []int{0, 1, n - 1, n + 1, n + 64, 257, 5000} {
				if count >= 0 && count != n {
					isNoPlain(t, x, rows, make([]int, count), api.ErrArg)
				}
			}
		}
	}
}

// P19.1: each number at its bounds and just out of them, far out too, be its row among the rows or not.
func TestPlainAtBounds(t *testing.T) {
	for _, x := range []api.Table{table(2, []int{0, 1, 1}), bare(3), table(32, []int{0, 0, 31}, []int{31, 31, 31})} {
		for place := range 3 {
			for _, rows := range []api.Bits{setOf(3), setOf(3, place), restOf(setOf(3, place)), setOf(3, 0, 1, 2)} {
				g := []int{1, 2, 3}
				for _, n := range []int{-1 << 20, -1<<20 + 1, -1, 0, 1, 1<<20 - 1, 1 << 20} {
					g[place] = n
					if sums, err := Plain(x, rows, g); err != api.OK || len(sums) != len(Cuts(x)) {
						t.Error(x, rows, g, sums, err)
					}
					checkPlain(t, x, rows, g)
				}
				for _, n := range append(far(), -1<<20-1, 1<<20+1, -1<<20-2, 1<<21, -1<<31, 1<<31) {
					g[place] = n
					isNoPlain(t, x, rows, g, api.ErrArg)
				}
			}
		}
	}
	g := make([]int, 256)
	for place := range g {
		g[place] = 1<<20 + 1
		isNoPlain(t, bare(256), setOf(256), g, api.ErrArg)
		g[place] = 1 << 20
	}
	isPlain(t, bare(256), setOf(256), g)
}

// P19.1: a table that may not be is ErrTable, ahead of all else.
func TestPlainOfWrongTables(t *testing.T) {
	for _, x := range wrongTables() {
		n := len(x.Ids)
		for _, rows := range []api.Bits{setOf(n), setOf(n, rising(n)...), setOf(n + 1), {}, {N: -1}, {N: n, W: []uint64{top, top, 1}}} {
			for _, g := range [][]int{make([]int, n), nil, make([]int, n+1), slices.Repeat([]int{1<<20 + 1}, n)} {
				isNoPlain(t, x, rows, g, api.ErrTable)
			}
		}
	}
}
