package central

import (
	"math"
	"slices"
	"testing"

	"windbreak/api"
)

// wrongConfigs are configurations that may not be, each for one part alone.
func wrongConfigs() []api.Config {
	right := api.Config{Trees: 3, Depth: 2, Lambda: 5, Gamma: 7, Num: 3, Den: 10}
	all := []api.Config{{}, clipped(right, -1), clipped(right, 0), clipped(right, 1<<20+1)}
	for _, e := range []struct {
		at   func(c *api.Config) *int
		none []int
	}{
		{func(c *api.Config) *int { return &c.Trees }, []int{-1, 0, 17}},
		{func(c *api.Config) *int { return &c.Depth }, []int{-1, 0, 6}},
		{func(c *api.Config) *int { return &c.Lambda }, []int{-1, 0, 1<<20 + 1}},
		{func(c *api.Config) *int { return &c.Gamma }, []int{-2, -1, 1<<20 + 1}},
		{func(c *api.Config) *int { return &c.Num }, []int{-1, 0, 11}},
		{func(c *api.Config) *int { return &c.Den }, []int{-1, 0, 2, 1<<20 + 1}},
		{func(c *api.Config) *int { return &c.Loss }, []int{-1, 1, 2}},
		{func(c *api.Config) *int { return &c.Clip }, []int{-1, 1, 2}},
	} {
		for _, n := range append(far(), e.none...) {
			c := right
			*e.at(&c) = n
			all = append(all, c)
		}
	}
	return all
}

// wrongTables are tables of four rows, about, that may not be, each for one reason alone.
func wrongTables() []api.Table {
	right := func() api.Table { return table(3, []int{0, 1, 2, 0}, []int{2, 1, 0, 2}) }
	all := []api.Table{table(1, []int{0, 0, 0, 0}), table(33, []int{0, 1, 2, 3}), table(0, []int{0, 0, 0, 0}), table(2, []int{0, 1, 2, 0}), bare(257), table(2, slices.Repeat([][]int{{0, 1, 0, 1}}, 17)...)}
	for _, change := range []func(t *api.Table){
		func(t *api.Table) { t.Ids[3] = 0 },
		func(t *api.Table) { t.Ids[0] = 3 },
		func(t *api.Table) { t.Ids = append(t.Ids, 4) },
		func(t *api.Table) { t.Ids = t.Ids[:3] },
		func(t *api.Table) { t.Bins = append(t.Bins, 2) },
		func(t *api.Table) { t.Bins = t.Bins[:1] },
		func(t *api.Table) { t.Cols = t.Cols[:1] },
		func(t *api.Table) { t.Cols[0] = append(t.Cols[0], 0) },
		func(t *api.Table) { t.Cols[1] = t.Cols[1][:3] },
		func(t *api.Table) { t.Cols[1] = nil },
	} {
		t := right()
		change(&t)
		all = append(all, t)
	}
	for _, n := range append(far(), -1, 1<<30+1) {
		for place := range 4 {
			t := right()
			t.Ids[place] = n
			all = append(all, t)
		}
	}
	for _, n := range append(far(), -1, 3) {
		for place := range 4 {
			t := right()
			t.Cols[place%2][place] = n
			all = append(all, t)
		}
	}
	return all
}

// otherTables are tables that may be, but whose ids are not 0 to 3 in this order.
func otherTables() []api.Table {
	all := []api.Table{{}, bare(1), bare(3), bare(5), table(2, []int{0, 1, 0}), table(2, []int{0, 1, 0, 1, 0}), {Bins: []int{2}, Cols: [][]int{nil}}}
	for _, ids := range [][]int{{1, 0, 2, 3}, {0, 1, 3, 2}, {3, 2, 1, 0}, {1, 2, 3, 0}, {0, 1, 2, 4}, {4, 1, 2, 3}, {0, 1, 2, 1 << 30}} {
		t := table(2, []int{0, 1, 0, 1})
		t.Ids = ids
		all = append(all, t, api.Table{Ids: ids})
	}
	return all
}

// The chapter's example.
func TestExamples(t *testing.T) {
	c, l, labels := example()
	isTrained(t, c, l, labels, nodes(splitBy(0, 0, 0, 1, 2), leaf(6), leaf(-7)))
}

// P18.1: ErrArg of a configuration that may not be, whatever stands beside it.
func TestWrongConfigs(t *testing.T) {
	_, l, labels := example()
	for _, c := range wrongConfigs() {
		isNotTrained(t, c, l, labels, api.ErrArg)
		isNotTrained(t, c, nil, nil, api.ErrArg)
		isNotTrained(t, c, tables(bare(0)), nil, api.ErrArg)
		isNotTrained(t, c, tables(bare(257)), labels, api.ErrArg)
		isNotTrained(t, c, tables(l[0], bare(3)), labels[1:], api.ErrArg)
	}
}

// P18.1: ErrArg of no tables and of 17, though tables and labels are wrong too; 1 to 16 may be.
func TestHowManyTables(t *testing.T) {
	c, l, labels := example()
	tree := nodes(splitBy(0, 0, 0, 1, 2), leaf(6), leaf(-7))
	for _, n := range []int{1, 2, 3, 15, 16} {
		isTrained(t, c, slices.Repeat(l, n), labels, tree)
		last := append(slices.Repeat(tables(bare(4)), n-1), l[0])
		isTrained(t, c, last, labels, nodes(splitBy(n-1, 0, 0, 1, 2), leaf(6), leaf(-7)))
		isNotTrained(t, c, slices.Repeat(tables(api.Table{}), n), nil, api.ErrTable)
	}
	for _, n := range []int{0, 17, 18, 100} {
		isNotTrained(t, c, slices.Repeat(l, n), labels, api.ErrArg)
		isNotTrained(t, c, slices.Repeat(l, n), labels[1:], api.ErrArg)
		isNotTrained(t, c, slices.Repeat(tables(api.Table{}), n), nil, api.ErrArg)
		isNotTrained(t, c, slices.Repeat(tables(bare(257)), n), labels, api.ErrArg)
	}
	isNotTrained(t, c, nil, nil, api.ErrArg)
}

// P18.1: ErrTable of a table that may not be, or whose ids are others, wherever it stands, though labels are wrong too.
func TestWrongTables(t *testing.T) {
	c, l, labels := example()
	for _, wrong := range wrongTables() {
		isNotTrained(t, c, tables(wrong), labels, api.ErrTable)
		isNotTrained(t, c, tables(wrong, wrong), labels, api.ErrTable)
	}
	for _, wrong := range append(wrongTables(), otherTables()...) {
		for _, n := range []int{2, 3, 16} {
			for _, place := range []int{0, 1, n / 2, n - 1} {
				all := slices.Repeat(l, n)
				all[place] = wrong
				isNotTrained(t, c, all, labels, api.ErrTable)
				isNotTrained(t, c, all, labels[1:], api.ErrTable)
				isNotTrained(t, c, all, nil, api.ErrTable)
				isNotTrained(t, c, all, []int{math.MinInt, 0, 0, 0}, api.ErrTable)
			}
		}
	}
}

// P18.1: ids that are no 0, 1, 2 .. may be, if they are the same in all tables, and change nothing.
func TestOtherIds(t *testing.T) {
	c, l, labels := example()
	for _, ids := range [][]int{{3, 2, 1, 0}, {7, 1 << 30, 0, 5}, {1<<30 - 3, 1<<30 - 2, 1<<30 - 1, 1 << 30}} {
		l[0].Ids = ids
		for _, all := range [][]api.Table{l, {l[0], {Ids: slices.Clone(ids)}}} {
			isTrained(t, c, all, labels, nodes(splitBy(0, 0, 0, 1, 2), leaf(6), leaf(-7)))
		}
	}
}

// P18.1: ErrTable of no rows, though there are labels.
func TestNoRows(t *testing.T) {
	none := []api.Table{{}, bare(0), {Bins: []int{2}, Cols: [][]int{nil}}, {Ids: []int{}, Bins: []int{2, 32}, Cols: [][]int{{}, nil}}}
	for _, x := range none {
		for _, y := range none {
			for _, labels := range [][]int{nil, {}, {1}, {math.MaxInt, 2}} {
				isNotTrained(t, one(), tables(x), labels, api.ErrTable)
				isNotTrained(t, one(), tables(x, y), labels, api.ErrTable)
				isNotTrained(t, one(), tables(x, y, bare(1)), labels, api.ErrTable)
			}
		}
	}
}

// P18.1: ErrArg of labels too few and too many.
func TestHowManyLabels(t *testing.T) {
	for _, rows := range []int{1, 2, 4, 63, 64, 65, 255, 256} {
		column := make([]int, rows)
		for _, l := range [][]api.Table{{bare(rows)}, {table(2, column)}, {bare(rows), table(32, column, column)}} {
			for _, n := range []int{0, 1, rows - 1, rows, rows + 1, 2 * rows, 256, 257, 1000} {
				if n == rows {
					isTrained(t, one(), l, make([]int, n), nodes(leaf(0)))
				} else {
					isNotTrained(t, one(), l, make([]int, n), api.ErrArg)
				}
			}
		}
	}
}

// P18.1: labels are from -2^20 to 2^20, each of them.
func TestLabelsOfBounds(t *testing.T) {
	c, l, _ := example()
	for place := range 4 {
		for _, n := range []int{-1 << 20, -1<<20 + 1, -1, 0, 1, 1<<20 - 1, 1 << 20} {
			labels := []int{0, 0, 0, 0}
			labels[place] = n
			checkTrain(t, c, l, labels)
			if _, err := Train(c, l, labels); err != api.OK {
				t.Error("label", n, "error", err)
			}
		}
		for _, n := range append(far(), -1<<40, -1<<21, -1<<20-2, -1<<20-1, 1<<20+1, 1<<20+2, 1<<21, 1<<32, 1<<40) {
			labels := []int{10, 10, -10, -10}
			labels[place] = n
			isNotTrained(t, c, l, labels, api.ErrArg)
		}
	}
	isTrained(t, c, l, []int{1 << 20, 1 << 20, -1 << 20, -1 << 20}, nodes(splitBy(0, 0, 0, 1, 2), leaf(699050), leaf(-699051)))
}

// P18.1: one row alone has no splits; its score comes nearer to the label, tree by tree, each leaf's weight being rounded down.
func TestOneRow(t *testing.T) {
	for _, l := range [][]api.Table{{bare(1)}, {table(2, []int{1})}, {table(32, []int{0}, []int{31}, []int{7}), table(3, []int{2})}} {
		isTrained(t, many(1, 5), l, []int{0}, nodes(leaf(0)))
		isTrained(t, many(6, 1), l, []int{10}, nodes(leaf(5)), nodes(leaf(2)), nodes(leaf(1)), nodes(leaf(1)), nodes(leaf(0)), nodes(leaf(0)))
		isTrained(t, many(5, 5), l, []int{-10}, nodes(leaf(-5)), nodes(leaf(-3)), nodes(leaf(-1)), nodes(leaf(-1)), nodes(leaf(0)))
		isTrained(t, many(2, 1), l, []int{1 << 20}, nodes(leaf(1<<19)), nodes(leaf(1<<18)))
		isTrained(t, many(2, 1), l, []int{-1 << 20}, nodes(leaf(-1<<19)), nodes(leaf(-1<<18)))
	}
}

// P18.1: as many trees as asked for, 1 and 16 too, though nothing is left to add.
func TestHowManyTrees(t *testing.T) {
	c, l, _ := example()
	for trees := 1; trees <= 16; trees++ {
		c.Trees = trees
		isTrained(t, c, l, []int{0, 0, 0, 0}, slices.Repeat([][]api.Node{{leaf(0)}}, trees)...)
		if m := checkTrain(t, c, l, []int{10, 10, -10, -10}); len(m.Trees) != trees {
			t.Error("asked for", trees, "trees:", len(m.Trees))
		}
	}
	c.Trees = 3
	isTrained(t, c, l, []int{10, 10, -10, -10}, nodes(splitBy(0, 0, 0, 1, 2), leaf(6), leaf(-7)), nodes(splitBy(0, 0, 0, 1, 2), leaf(2), leaf(-2)), nodes(splitBy(0, 0, 0, 1, 2), leaf(1), leaf(-1)))
}

// P18.1: a row's number is clipped, of Loss 1.
func TestClipped(t *testing.T) {
	c, l, labels := example()
	isTrained(t, clipped(c, 2), l, labels, nodes(splitBy(0, 0, 0, 1, 2), leaf(1), leaf(-2)))
	isTrained(t, clipped(c, 9), l, labels, nodes(splitBy(0, 0, 0, 1, 2), leaf(6), leaf(-6)))
	isTrained(t, clipped(c, 10), l, labels, nodes(splitBy(0, 0, 0, 1, 2), leaf(6), leaf(-7)))
	isTrained(t, clipped(many(4, 1), 2), tables(bare(1)), []int{5}, nodes(leaf(1)), nodes(leaf(1)), nodes(leaf(1)), nodes(leaf(1)))
	isTrained(t, clipped(many(4, 1), 4), tables(bare(1)), []int{-5}, nodes(leaf(-2)), nodes(leaf(-2)), nodes(leaf(-1)), nodes(leaf(0)))
	isTrained(t, clipped(c, 1<<20), l, labels, nodes(splitBy(0, 0, 0, 1, 2), leaf(6), leaf(-7)))
}

// P18.1: a leaf's weight is loss.Weight of all its rows: by Num and Den, and by Lambda.
func TestWeights(t *testing.T) {
	c, l, labels := example()
	c.Num, c.Den = 1, 10
	isTrained(t, c, l, labels, nodes(splitBy(0, 0, 0, 1, 2), leaf(0), leaf(-1)))
	c.Num, c.Den = 9, 10
	isTrained(t, c, l, labels, nodes(splitBy(0, 0, 0, 1, 2), leaf(6), leaf(-6)))
	c.Num, c.Den, c.Lambda = 1, 1, 3
	isTrained(t, c, l, labels, nodes(splitBy(0, 0, 0, 1, 2), leaf(4), leaf(-4)))
	c.Lambda = 4
	isTrained(t, c, l, labels, nodes(splitBy(0, 0, 0, 1, 2), leaf(3), leaf(-4)))
	c.Lambda = 1 << 20
	isTrained(t, c, l, []int{1 << 20, 1 << 20, -1 << 20, -1 << 20}, nodes(splitBy(0, 0, 0, 1, 2), leaf(1), leaf(-2)))
}
