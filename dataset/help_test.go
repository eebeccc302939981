package dataset

import (
	"math"
	"math/rand/v2"
	"slices"
	"testing"

	"windbreak/api"
)

// seeded is a source that is the same for the same seed.
func seeded(seed uint64) *rand.Rand { return rand.New(rand.NewPCG(seed, 15)) }

// noIds are numbers that no id may be.
func noIds() []int {
	return []int{math.MinInt, -1 << 32, -1 << 31, -1 << 30, -2, -1, 1<<30 + 1, 1<<30 + 2, 1 << 31, 1 << 32, 1<<32 + 1, 1 << 62, math.MaxInt}
}

// allowedIds is whether numbers may be ids, by the document's words, number by number.
func allowedIds(ids []int) bool {
	if len(ids) > 256 {
		return false
	}
	for i, id := range ids {
		if id < 0 || id > 1<<30 || slices.Contains(ids[:i], id) {
			return false
		}
	}
	return true
}

// allowed is whether a table may be, by the document's words, number by number.
func allowed(t api.Table) bool {
	if !allowedIds(t.Ids) || len(t.Cols) > 16 || len(t.Bins) != len(t.Cols) {
		return false
	}
	for i, column := range t.Cols {
		if t.Bins[i] < 2 || t.Bins[i] > 32 || len(column) != len(t.Ids) {
			return false
		}
		for _, bin := range column {
			if bin < 0 || bin >= t.Bins[i] {
				return false
			}
		}
	}
	return true
}

// rising are the numbers below n.
func rising(n int) []int {
	l := make([]int, n)
	for i := range l {
		l[i] = i
	}
	return l
}

// someIds are so many, by chance near to 0, near to 2^30, or anywhere; rising, falling, or in no order.
func someIds(r *rand.Rand, count int) []int {
	from, to := 0, 1<<30
	switch r.IntN(3) {
	case 0:
		to = count
	case 1:
		from = 1<<30 - count
	}
	var ids []int
	for len(ids) < count {
		if id := from + r.IntN(to-from+1); !slices.Contains(ids, id) {
			ids = append(ids, id)
		}
	}
	switch r.IntN(3) {
	case 0:
		slices.Sort(ids)
	case 1:
		slices.Sort(ids)
		slices.Reverse(ids)
	}
	return ids
}

// strangeTo is the least id that is none of some.
func strangeTo(ids []int) int {
	strange := 0
	for slices.Contains(ids, strange) {
		strange++
	}
	return strange
}

// someOf is a table of some ids, with so many columns: of 2 bins, of 32, or of some between; of any numbers, of 0 alone or of the last one alone.
func someOf(r *rand.Rand, ids []int, columns int) api.Table {
	t := api.Table{Ids: slices.Clone(ids)}
	for range columns {
		bins := []int{2, 32, 2 + r.IntN(31)}[r.IntN(3)]
		least, most := 0, bins-1
		switch r.IntN(6) {
		case 0:
			most = 0
		case 1:
			least = bins - 1
		}
		column := make([]int, len(ids))
		for i := range column {
			column[i] = least + r.IntN(most-least+1)
		}
		t.Bins = append(t.Bins, bins)
		t.Cols = append(t.Cols, column)
	}
	return t
}

// manyTables are of all numbers of rows and columns that tell.
func manyTables() []api.Table {
	r := seeded(1)
	var all []api.Table
	for _, rows := range []int{0, 1, 2, 3, 4, 7, 63, 64, 65, 128, 255, 256} {
		for _, columns := range []int{0, 1, 2, 3, 15, 16} {
			all = append(all, someOf(r, someIds(r, rows), columns))
		}
	}
	return all
}

// wrong is a table that may not be, and the one reason why.
type wrong struct {
	why string
	t   api.Table
}

// wrongTables are such as may not be, each for one reason alone.
func wrongTables() []wrong {
	r := seeded(2)
	var all []wrong
	for _, rows := range []int{1, 2, 5, 64, 256} {
		for _, columns := range []int{1, 2, 16} {
			t := someOf(r, someIds(r, rows), columns)
			all = slices.Concat(all, wrongByIds(t), wrongByShape(t), wrongByBins(t))
		}
		bare := api.Table{Ids: someIds(r, rows)}
		all = append(all, wrongByIds(bare)...)
		all = append(all, wrong{"Bins of no columns", api.Table{Ids: bare.Ids, Bins: []int{2}}})
	}
	return append(all, wrongBySize(r)...)
}

// changed is a table with a change that is made on a copy of it.
func changed(t api.Table, change func(t *api.Table)) api.Table {
	t = copied(t)
	change(&t)
	return t
}

// ends are the first, the middle and the last place of some.
func ends(count int) []int { return []int{0, count / 2, count - 1} }

func wrongByIds(t api.Table) []wrong {
	var all []wrong
	rows := len(t.Ids)
	for _, i := range ends(rows) {
		for _, id := range noIds() {
			all = append(all, wrong{"an id out of bounds", changed(t, func(t *api.Table) { t.Ids[i] = id })})
		}
		for _, j := range ends(rows) {
			if i != j {
				all = append(all, wrong{"an id twice", changed(t, func(t *api.Table) { t.Ids[i] = t.Ids[j] })})
			}
		}
	}
	return all
}

func wrongByShape(t api.Table) []wrong {
	last := len(t.Bins) - 1
	all := []wrong{
		{"one of Bins too few", changed(t, func(t *api.Table) { t.Bins = t.Bins[:last] })},
		{"one of Bins too many", changed(t, func(t *api.Table) { t.Bins = append(t.Bins, 2) })},
		{"no Bins", changed(t, func(t *api.Table) { t.Bins = nil })},
		{"no columns", changed(t, func(t *api.Table) { t.Cols = nil })},
		{"a column too few", changed(t, func(t *api.Table) { t.Cols = t.Cols[:last] })},
		{"no ids", changed(t, func(t *api.Table) { t.Ids = nil })},
	}
	for _, c := range ends(len(t.Cols)) {
		all = append(all,
			wrong{"a column that is too short", changed(t, func(t *api.Table) { t.Cols[c] = t.Cols[c][1:] })},
			wrong{"a column that is too long", changed(t, func(t *api.Table) { t.Cols[c] = append(t.Cols[c], 0) })},
			wrong{"a column that is not there", changed(t, func(t *api.Table) { t.Cols[c] = nil })})
	}
	return all
}

func wrongByBins(t api.Table) []wrong {
	var all []wrong
	for _, c := range ends(len(t.Cols)) {
		for _, bins := range []int{math.MinInt, -1 << 32, -2, -1, 0, 1, 33, 34, 1<<32 + 2, 1<<32 + 32, math.MaxInt} {
			all = append(all, wrong{"how many bins", changed(t, func(t *api.Table) {
				t.Bins[c] = bins
				clear(t.Cols[c])
			})})
		}
		for _, bin := range []int{math.MinInt, -1 << 32, -t.Bins[c], -2, -1, t.Bins[c], t.Bins[c] + 1, 32, 33, 256, 1 << 32, math.MaxInt} {
			for _, i := range ends(len(t.Ids)) {
				all = append(all, wrong{"a number out of bounds", changed(t, func(t *api.Table) { t.Cols[c][i] = bin })})
			}
		}
	}
	return all
}

func wrongBySize(r *rand.Rand) []wrong {
	return []wrong{
		{"257 ids", someOf(r, someIds(r, 257), 0)},
		{"257 ids with columns", someOf(r, someIds(r, 257), 3)},
		{"many ids", someOf(r, rising(5000), 1)},
		{"17 columns", someOf(r, rising(4), 17)},
		{"17 columns of no rows", someOf(r, nil, 17)},
		{"many columns", someOf(r, rising(2), 1000)},
		{"a column of one row more than none", api.Table{Bins: []int{2}, Cols: [][]int{{0}}}},
		{"Bins of no rows and no columns", api.Table{Bins: []int{2}}},
		{"no Bins of an empty column", api.Table{Cols: [][]int{nil}}},
		{"1 bin of no rows", api.Table{Bins: []int{1}, Cols: [][]int{nil}}},
		{"33 bins of no rows", api.Table{Bins: []int{33}, Cols: [][]int{nil}}},
	}
}

// wrongIds are numbers that may not be ids, each for one reason alone.
func wrongIds() [][]int {
	all := [][]int{{1, 1}, {0, 0}, {1, 2, 1}, {3, 1, 2, 2}, {1 << 30, 5, 1 << 30}, rising(257), rising(258), rising(5000), append(rising(255), 0), append(rising(255), 254)}
	for _, id := range noIds() {
		all = append(all, []int{id}, []int{id, 0}, []int{0, id}, []int{2, id, 1}, append(rising(255), id))
	}
	return all
}

// copied is a table in memory of its own.
func copied(t api.Table) api.Table {
	c := api.Table{Ids: slices.Clone(t.Ids), Bins: slices.Clone(t.Bins)}
	for _, column := range t.Cols {
		c.Cols = append(c.Cols, slices.Clone(column))
	}
	return c
}

// same is whether two are the same table, be a list nil or empty.
func same(a, b api.Table) bool {
	return slices.Equal(a.Ids, b.Ids) && slices.Equal(a.Bins, b.Bins) && slices.EqualFunc(a.Cols, b.Cols, slices.Equal)
}

// brief tells a table shortly.
func brief(t api.Table) api.Table {
	t = copied(t)
	t.Ids, t.Bins, t.Cols = t.Ids[:min(len(t.Ids), 6)], t.Bins[:min(len(t.Bins), 6)], t.Cols[:min(len(t.Cols), 3)]
	for i, column := range t.Cols {
		t.Cols[i] = column[:min(len(column), 6)]
	}
	return t
}

// isTable asks of an answer that it is just this table.
func isTable(t testing.TB, what string, got api.Table, err api.Errno, want api.Table) {
	t.Helper()
	if err != api.OK || !same(got, want) {
		t.Errorf("%s: %v, error %d, asked %v", what, brief(got), err, brief(want))
	}
}

// isNoTable asks of an answer that it is an error, and nothing beside it.
func isNoTable(t testing.TB, what string, got api.Table, err, want api.Errno) {
	t.Helper()
	if err != want || got.Ids != nil || got.Bins != nil || got.Cols != nil {
		t.Errorf("%s: %v, error %d, asked error %d and no table", what, brief(got), err, want)
	}
}

// bitsOf is the set of some places below n, by the words of the document's layer of sets.
func bitsOf(n int, places []int) api.Bits {
	s := api.Bits{N: n, W: make([]uint64, (n+63)/64)}
	for _, place := range places {
		s.W[place/64] |= 1 << (place % 64)
	}
	return s
}

// isSet asks of an answer that it is just this set.
func isSet(t testing.TB, what string, got api.Bits, err api.Errno, want api.Bits) {
	t.Helper()
	if err != api.OK || got.N != want.N || !slices.Equal(got.W, want.W) {
		t.Errorf("%s: %v, error %d, asked %v", what, got, err, want)
	}
}

// isNoSet asks of an answer that it is an error, and nothing beside it.
func isNoSet(t testing.TB, what string, got api.Bits, err, want api.Errno) {
	t.Helper()
	if err != want || got.N != 0 || got.W != nil {
		t.Errorf("%s: %v, error %d, asked error %d and no set", what, got, err, want)
	}
}

// isList asks of an answer that it is just these ids; of none, that there are none, be the list nil or empty.
func isList(t testing.TB, what string, got []int, err api.Errno, want []int) {
	t.Helper()
	if err != api.OK || !slices.Equal(got, want) {
		t.Errorf("%s: %v, error %d, asked %v", what, got, err, want)
	}
}

// isNoList asks of an answer that it is an error, and nothing beside it.
func isNoList(t testing.TB, what string, got []int, err, want api.Errno) {
	t.Helper()
	if err != want || got != nil {
		t.Errorf("%s: %v, error %d, asked error %d and no list", what, got, err, want)
	}
}
