package dataset

import (
	"testing"

	"windbreak/api"
)

// P15.1: which tables may be.
func TestRight(t *testing.T) {
	for _, x := range manyTables() {
		if !Right(x) {
			t.Error("may be:", brief(x))
		}
	}
	for _, w := range wrongTables() {
		if Right(w.t) || allowed(w.t) {
			t.Error("may not be:", w.why, brief(w.t))
		}
	}
}

// P15.1: tables of no rows, of 256, and of one more; with columns and with none.
func TestRightOfRows(t *testing.T) {
	for rows := range 300 {
		for _, columns := range []int{0, 1, 16} {
			x := api.Table{Ids: rising(rows)}
			for range columns {
				x.Bins = append(x.Bins, 2)
				x.Cols = append(x.Cols, make([]int, rows))
			}
			if got := Right(x); got != (rows <= 256) {
				t.Error("of", rows, "rows and", columns, "columns:", got)
			}
		}
	}
}

// P15.1: an id is from 0 to 2^30, wherever it stands.
func TestRightOfIds(t *testing.T) {
	for _, rows := range []int{1, 2, 3, 256} {
		for _, i := range ends(rows) {
			ids := rising(rows + 1)[1:]
			for _, id := range []int{0, 1<<30 - 1, 1 << 30} {
				ids[i] = id
				if !Right(api.Table{Ids: ids}) {
					t.Error("id", id, "at", i, "of", rows)
				}
			}
			for _, id := range noIds() {
				ids[i] = id
				if Right(api.Table{Ids: ids}) {
					t.Error("id", id, "at", i, "of", rows)
				}
			}
		}
	}
}

// P15.1: no two ids are the same, whichever two.
func TestRightOfIdsTwice(t *testing.T) {
	for _, rows := range []int{2, 3, 9, 40} {
		for i := range rows {
			for j := range rows {
				ids := rising(rows)
				ids[i] = ids[j]
				if got := Right(api.Table{Ids: ids}); got != (i == j) {
					t.Error(i, "as", j, "of", rows, got)
				}
			}
		}
	}
}

// P15.1: at most 16 columns, and as many Bins.
func TestRightOfColumns(t *testing.T) {
	for columns := range 20 {
		for bins := range 20 {
			x := api.Table{Ids: []int{7, 3}}
			for range columns {
				x.Cols = append(x.Cols, []int{0, 1})
			}
			for range bins {
				x.Bins = append(x.Bins, 2)
			}
			if got := Right(x); got != (columns == bins && columns <= 16) {
				t.Error("of", columns, "columns and", bins, "Bins:", got)
			}
		}
	}
}

// P15.1: of 2 to 32 bins, whichever column it is; each number from 0 to below that.
func TestRightOfBins(t *testing.T) {
	for columns := 1; columns <= 16; columns++ {
		for c := range columns {
			for bins := -3; bins < 40; bins++ {
				x := someOf(seeded(uint64(columns)), []int{5, 0, 9}, columns)
				x.Bins[c] = bins
				for bin := -3; bin < 40; bin++ {
					x.Cols[c] = []int{0, bin, 0}
					if got := Right(x); got != (bins >= 2 && bins <= 32 && bin >= 0 && bin < bins) {
						t.Fatal("number", bin, "of", bins, "bins:", got)
					}
				}
			}
		}
	}
}

// P15.1: each column has a number for each id, no more and no fewer.
func TestRightOfLengths(t *testing.T) {
	for rows := range 6 {
		for a := range 8 {
			for b := range 8 {
				x := api.Table{Ids: rising(rows), Bins: []int{2, 3}, Cols: [][]int{make([]int, a), make([]int, b)}}
				if got := Right(x); got != (a == rows && b == rows) {
					t.Error("of", rows, "rows, columns of", a, "and", b, got)
				}
			}
		}
	}
}

// P15.1: every table of few rows and small numbers, those that may not be among them.
func TestAllSmallTables(t *testing.T) {
	var told [2]int
	for rows := range 3 {
		for code := range 5 * 5 * 4 * 5 * 5 {
			digit := func(base int) int {
				d := code % base
				code /= base
				return d - 1
			}
			ids := []int{digit(5), digit(5)}[:rows]
			x := api.Table{Ids: ids, Bins: []int{digit(4) + 1}, Cols: [][]int{[]int{digit(5), digit(5)}[:rows]}}
			checkRight(t, x)
			if Right(x) {
				told[1]++
			} else {
				told[0]++
			}
		}
	}
	if told[0] < 3000 || told[1] < 300 {
		t.Error("how many may not be, and how many may:", told)
	}
}

// The document's examples.
func TestExamples(t *testing.T) {
	ids, err := Align([][]int{{3, 1, 2}, {2, 3, 5}})
	isList(t, "Align(3 1 2, 2 3 5)", ids, err, []int{2, 3})
	x := api.Table{Ids: []int{3, 1, 2}, Bins: []int{2}, Cols: [][]int{{0, 1, 1}}}
	taken, err := Take(x, []int{2, 3})
	isTable(t, "Take by 2 3", taken, err, api.Table{Ids: []int{2, 3}, Bins: []int{2}, Cols: [][]int{{1, 0}}})
	y := api.Table{Ids: []int{3, 1, 2}, Bins: []int{3}, Cols: [][]int{{0, 2, 1}}}
	s, err := Left(y, 0, 1)
	isSet(t, "Left of 0 2 1, cut 1", s, err, api.Bits{N: 3, W: []uint64{5}})
	joined, err := Join([]api.Table{x, y})
	isTable(t, "Join", joined, err, api.Table{Ids: []int{3, 1, 2}, Bins: []int{2, 3}, Cols: [][]int{{0, 1, 1}, {0, 2, 1}}})
}
