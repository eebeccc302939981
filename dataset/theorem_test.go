package dataset

import (
	"slices"
	"testing"

	"windbreak/api"
	"windbreak/bitset"
)

// checkTogether asks of tables that what Align tells of their ids can be taken of each, and that what was taken can be joined: each row has its id's bins.
func checkTogether(t testing.TB, tables []api.Table) {
	t.Helper()
	var lists [][]int
	for _, x := range tables {
		lists = append(lists, x.Ids)
	}
	ids, err := Align(lists)
	if err != api.OK || !slices.IsSorted(ids) {
		t.Fatal("Align:", ids, err)
	}
	var all []api.Table
	for _, x := range tables {
		taken, err := Take(x, ids)
		if err != api.OK || !Right(taken) || !slices.Equal(taken.Ids, ids) {
			t.Fatal("Take:", brief(taken), err)
		}
		checkItself(t, taken)
		all = append(all, taken)
	}
	joined, err := Join(all)
	if err != api.OK || !slices.Equal(joined.Ids, ids) {
		t.Fatal("Join:", brief(joined), err)
	}
	next := 0
	for _, x := range tables {
		for c, bins := range x.Bins {
			if joined.Bins[next] != bins {
				t.Fatal("of", bins, "bins:", joined.Bins[next])
			}
			for row, id := range ids {
				if joined.Cols[next][row] != x.Cols[c][slices.Index(x.Ids, id)] {
					t.Fatal("the row of", id, "in column", next)
				}
			}
			next++
		}
	}
	if len(joined.Cols) != next || len(joined.Bins) != next {
		t.Fatal(len(joined.Cols), len(joined.Bins), "of", next)
	}
}

// checkItself asks of a table that it is itself, taken by its own ids; and that the rows to the left of a cut are among those of each greater one, and of the last one all.
func checkItself(t testing.TB, x api.Table) {
	t.Helper()
	taken, err := Take(x, x.Ids)
	isTable(t, "by its own ids", taken, err, x)
	for column, bins := range x.Bins {
		last, _ := bitset.New(len(x.Ids))
		for cut := range bins {
			left, err := Left(x, column, cut)
			if err != api.OK || !bitset.Right(left) || left.N != len(x.Ids) {
				t.Fatal("Left:", column, cut, err)
			}
			if gone, err := bitset.Minus(last, left); err != api.OK || bitset.Count(gone) > 0 {
				t.Fatal("to the left of a cut, not of a greater one:", column, cut, err)
			}
			last = left
		}
		full, _ := bitset.Full(len(x.Ids))
		isSet(t, "the last cut", last, api.OK, full)
	}
}

// P15.5: over many tables, of which some ids are in common, or none, or all.
func TestTheorem(t *testing.T) {
	r := seeded(11)
	for range 400 {
		tables := make([]api.Table, 1+r.IntN(16))
		pool := someIds(r, 1+r.IntN(256))
		most := r.IntN(17)
		for i := range tables {
			ids := slices.Clone(pool)
			r.Shuffle(len(ids), func(a, b int) { ids[a], ids[b] = ids[b], ids[a] })
			switch r.IntN(8) {
			case 0:
				ids = ids[:r.IntN(len(ids)+1)]
			case 1, 2, 3, 4:
				ids = ids[r.IntN(1+len(ids)/10):]
			}
			tables[i] = someOf(r, ids, r.IntN(most+1))
		}
		checkTogether(t, tables)
	}
}

// P15.5: every two tables of few rows, and every three of fewer.
func TestTheoremOfSmall(t *testing.T) {
	r := seeded(12)
	for _, a := range arrangements(4) {
		for _, b := range arrangements(4) {
			checkTogether(t, []api.Table{someOf(r, a, 2), someOf(r, b, 1)})
		}
	}
	for _, a := range arrangements(3) {
		for _, b := range arrangements(3) {
			for _, c := range arrangements(3) {
				checkTogether(t, []api.Table{someOf(r, a, 1), someOf(r, b, 0), someOf(r, c, 1)})
			}
		}
	}
}

// P15.5: what Align tells may be taken of each table that has a list's ids, in whichever order it has them, and more beside.
func TestTakeOfAligned(t *testing.T) {
	r := seeded(13)
	for range 300 {
		pool := someIds(r, 2+r.IntN(200))
		cut := r.IntN(len(pool) / 2)
		lists := [][]int{pool[cut:], pool[:len(pool)-cut]}
		ids, err := Align(lists)
		isList(t, "Align", ids, err, slices.Sorted(slices.Values(pool[cut:len(pool)-cut])))
		for _, list := range append(lists, pool) {
			own := slices.Clone(list)
			r.Shuffle(len(own), func(a, b int) { own[a], own[b] = own[b], own[a] })
			x := someOf(r, own, 3)
			checkTake(t, x, ids)
			if taken, err := Take(x, ids); err != api.OK || !slices.Equal(taken.Ids, ids) {
				t.Error("Take:", brief(taken), err)
			}
		}
	}
}

// P15.5: of tables at all bounds.
func TestTheoremAtBounds(t *testing.T) {
	for _, x := range manyTables() {
		checkItself(t, x)
		checkTogether(t, []api.Table{x})
		checkTogether(t, slices.Repeat([]api.Table{x}, 16))
	}
}
