package hist

import (
	"slices"
	"testing"

	"windbreak/api"
)

// P19.1, P19.2, P19.3: the chapter's examples.
func TestExamples(t *testing.T) {
	x, rows := example()
	if l := Cuts(x); !slices.Equal(l, []api.Cut{{Feature: 0, Cut: 0}}) {
		t.Error(l)
	}
	isPlain(t, x, rows, []int{5, 6, 7}, api.Sum{G: 5, H: 1})
	n := api.Nat{17947}
	isHidden(t, n, x, rows, []api.Nat{{89736}, {1}, {1}}, api.Nat{89736})
	if c, err := Less(n, api.Nat{89736}, api.Nat{89736}); err != api.OK || !slices.Equal(c, api.Nat{1}) {
		t.Error(c, err)
	}
}

// manyTables are of all numbers of rows and columns that tell.
func manyTables() []api.Table {
	r := seeded(1)
	all := []api.Table{{}, {Bins: []int{2}, Cols: [][]int{nil}}}
	for _, rows := range []int{0, 1, 2, 3, 4, 7, 63, 64, 65, 128, 255, 256} {
		for _, columns := range []int{0, 1, 2, 3, 15, 16} {
			all = append(all, someTable(r, rows, columns))
		}
	}
	return all
}

// wrongTables are tables of four rows, about, that may not be, each for one reason alone.
func wrongTables() []api.Table {
	right := func() api.Table { return table(3, []int{0, 1, 2, 0}, []int{2, 1, 0, 2}) }
	all := []api.Table{table(1, []int{0, 0, 0, 0}), table(33, []int{0, 1, 2, 3}), table(0, []int{0, 0, 0, 0}), table(-1, []int{0, 0, 0, 0}), table(2, []int{0, 1, 2, 0}), bare(257), table(2, slices.Repeat([][]int{{0, 1, 0, 1}}, 17)...), table(2, make([]int, 257)),
		{Bins: []int{1}, Cols: [][]int{nil}}, {Bins: []int{33}, Cols: [][]int{nil}}, {Bins: []int{2}}, {Cols: [][]int{nil}}}
	for _, change := range []func(t *api.Table){
		func(t *api.Table) { t.Ids[3] = 0 },
		func(t *api.Table) { t.Ids[0] = 3 },
		func(t *api.Table) { t.Ids = append(t.Ids, 4) },
		func(t *api.Table) { t.Ids = t.Ids[:3] },
		func(t *api.Table) { t.Bins = append(t.Bins, 2) },
		func(t *api.Table) { t.Bins = t.Bins[:1] },
		func(t *api.Table) { t.Bins[1] = 1 },
		func(t *api.Table) { t.Cols = t.Cols[:1] },
		func(t *api.Table) { t.Cols[0] = append(t.Cols[0], 0) },
		func(t *api.Table) { t.Cols[1] = t.Cols[1][:3] },
		func(t *api.Table) { t.Cols[1] = nil },
	} {
		t := right()
		change(&t)
		all = append(all, t)
	}
	for _, n := range append(far(), -1, 1<<30+1) {
		for place := range 4 {
			t := right()
			t.Ids[place] = n
			all = append(all, t)
		}
	}
	for _, n := range append(far(), -1, 3) {
		for place := range 4 {
			t := right()
			t.Cols[place%2][place] = n
			all = append(all, t)
		}
	}
	for _, n := range append(far(), -1, 0, 1, 2, 33) { // 2: a bin is 2 too
		t := right()
		t.Bins[0] = n
		all = append(all, t)
	}
	return all
}

// P19.1: the cuts of tables that may be.
func TestCuts(t *testing.T) {
	for _, x := range manyTables() {
		checkCuts(t, x)
	}
	for bins := -1; bins < 36; bins++ {
		x := table(bins, []int{0, 0})
		checkCuts(t, x)
		want := 0
		if bins >= 2 && bins <= 32 {
			want = bins - 1
		}
		if got := Cuts(x); len(got) != want {
			t.Error("of", bins, "bins:", got)
		}
	}
}

// P19.1: feature by feature, each of Bins of its own, though no row or one alone is there.
func TestCutsOfSeveral(t *testing.T) {
	for _, x := range []api.Table{
		{Bins: []int{3, 2, 4}, Cols: [][]int{nil, {}, nil}},
		{Ids: []int{1 << 30}, Bins: []int{3, 2, 4}, Cols: [][]int{{2}, {0}, {3}}},
		{Ids: []int{5, 0, 4}, Bins: []int{3, 2, 4}, Cols: [][]int{{0, 0, 0}, {1, 0, 1}, {3, 2, 1}}},
	} {
		if got := Cuts(x); !slices.Equal(got, []api.Cut{{Feature: 0, Cut: 0}, {Feature: 0, Cut: 1}, {Feature: 1, Cut: 0}, {Feature: 2, Cut: 0}, {Feature: 2, Cut: 1}, {Feature: 2, Cut: 2}}) {
			t.Error(got)
		}
	}
	most := table(32, slices.Repeat([][]int{make([]int, 256)}, 16)...)
	if got := Cuts(most); len(got) != 496 || got[495] != (api.Cut{Feature: 15, Cut: 30}) {
		t.Error(len(got), got)
	}
}

// P19.1: none of a table that may not be, and of one of no columns.
func TestNoCuts(t *testing.T) {
	for _, x := range append(wrongTables(), api.Table{}, bare(1), bare(256), api.Table{Ids: []int{}, Bins: []int{}, Cols: [][]int{}}) {
		if got := Cuts(x); len(got) != 0 {
			t.Error("of", brief(x), got)
		}
		checkCuts(t, x)
	}
	for _, x := range wrongTables() {
		if mayTable(x) {
			t.Error("may be, by the other reckoning:", brief(x))
		}
	}
}
