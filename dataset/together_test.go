package dataset

import (
	"slices"
	"testing"

	"windbreak/api"
)

// P15.1: of no lists, of 1, of 16, and of one more; be they right or wrong.
func TestAlignOfHowMany(t *testing.T) {
	for count := range 40 {
		l := make([][]int, count)
		for i := range l {
			l[i] = []int{90, i, 100, 200 + i}
		}
		got, err := Align(l)
		if count == 0 || count > 16 {
			isNoList(t, "how many", got, err, api.ErrArg)
		} else if err != api.OK {
			t.Error("of", count, "lists:", err)
		}
		for i := range l {
			l[i] = []int{1, 1}
			got, err = Align(l)
			if count > 16 {
				isNoList(t, "how many, and a wrong one", got, err, api.ErrArg)
			} else {
				isNoList(t, "a wrong one", got, err, api.ErrTable)
			}
			l[i] = nil
			checkAlign(t, l)
		}
	}
	for _, l := range [][][]int{nil, {}, make([][]int, 0, 3)} {
		got, err := Align(l)
		isNoList(t, "of no lists", got, err, api.ErrArg)
	}
}

// P15.1: a list that may not be ids, wherever it stands, whatever the others are.
func TestAlignOfWrong(t *testing.T) {
	for _, wrong := range wrongIds() {
		for _, count := range []int{1, 2, 3, 16} {
			for _, i := range ends(count) {
				for _, others := range [][]int{nil, {0, 1, 2}, {1, 1}, wrong} {
					l := make([][]int, count)
					for j := range l {
						l[j] = others
					}
					l[i] = wrong
					got, err := Align(l)
					isNoList(t, "a wrong one", got, err, api.ErrTable)
				}
			}
		}
	}
}

// arrangements are all lists of some of the numbers below n, each at most once, in any order.
func arrangements(n int) [][]int {
	all := [][]int{nil}
	for at := 0; at < len(all); at++ {
		for i := range n {
			if !slices.Contains(all[at], i) {
				all = append(all, append(slices.Clone(all[at]), i))
			}
		}
	}
	return all
}

// P15.1: every three lists of few ids.
func TestAlignOfAllSmall(t *testing.T) {
	all := arrangements(3)
	if len(all) != 16 {
		t.Fatal(len(all), "lists")
	}
	for _, a := range all {
		checkAlign(t, [][]int{a})
		for _, b := range all {
			checkAlign(t, [][]int{a, b})
			for _, c := range all {
				checkAlign(t, [][]int{a, b, c})
			}
		}
	}
}

// P15.1: nothing in common, all in common, in any order; what is told rises.
func TestAlign(t *testing.T) {
	r := seeded(3)
	for _, count := range []int{1, 2, 3, 15, 16} {
		for _, rows := range []int{0, 1, 2, 3, 16, 255, 256} {
			ids := someIds(r, rows)
			l := make([][]int, count)
			for i := range l {
				l[i] = slices.Clone(ids)
				r.Shuffle(rows, func(a, b int) { l[i][a], l[i][b] = l[i][b], l[i][a] })
			}
			got, err := Align(l)
			isList(t, "all in common", got, err, slices.Sorted(slices.Values(ids)))
			for _, i := range ends(count) {
				if count > 1 && rows > 0 {
					l[i] = nil
					got, err = Align(l)
					isList(t, "one is empty", got, err, nil)
					l[i] = ids[1:]
					got, err = Align(l)
					isList(t, "one has one fewer", got, err, slices.Sorted(slices.Values(ids[1:])))
					l[i] = ids
				}
			}
		}
	}
	got, err := Align([][]int{{1, 2, 3}, {4, 5, 6}, {7, 8, 9}})
	isList(t, "nothing in common", got, err, nil)
	got, err = Align([][]int{{1, 2}, {2, 3}, {3, 1}})
	isList(t, "nothing in common, but each two", got, err, nil)
	got, err = Align([][]int{{1 << 30, 0, 8}, {0, 9, 1 << 30}})
	isList(t, "the ends", got, err, []int{0, 1 << 30})
}

// P15.1: any lists, of which many ids are in common, and some are out of bounds or twice.
func TestAlignOfAny(t *testing.T) {
	r := seeded(4)
	for range 3000 {
		l := make([][]int, r.IntN(18))
		most := 1 + r.IntN(300)
		for i := range l {
			ids := r.Perm(most)
			if r.IntN(3) > 0 {
				ids = ids[r.IntN(1+most/8):]
			}
			if len(ids) > 0 && r.IntN(60) == 0 {
				ids[r.IntN(len(ids))] = []int{-1, ids[0], 1 << 30, 1<<30 + 1}[r.IntN(4)]
			}
			l[i] = ids
		}
		checkAlign(t, l)
	}
}

// P15.3: of no tables, of 1, of 16, and of one more; be they right or wrong.
func TestJoinOfHowMany(t *testing.T) {
	r := seeded(5)
	for count := range 40 {
		l := make([]api.Table, count)
		for i := range l {
			l[i] = someOf(r, []int{9, 4, 1 << 30}, r.IntN(4))
		}
		got, err := Join(l)
		if count == 0 || count > 16 {
			isNoTable(t, "how many", got, err, api.ErrArg)
		} else if err != api.OK {
			t.Error("of", count, "tables:", err)
		}
		checkJoin(t, l)
		for i := range l {
			right := l[i]
			l[i] = api.Table{Ids: []int{1, 1}}
			got, err = Join(l)
			if count > 16 {
				isNoTable(t, "how many, and a wrong one", got, err, api.ErrArg)
			} else {
				isNoTable(t, "a wrong one", got, err, api.ErrTable)
			}
			l[i] = right
		}
	}
	for _, l := range [][]api.Table{nil, {}, make([]api.Table, 0, 3)} {
		got, err := Join(l)
		isNoTable(t, "of no tables", got, err, api.ErrArg)
	}
}

// P15.3: a table that may not be, wherever it stands among such as have its ids.
func TestJoinOfWrong(t *testing.T) {
	for _, w := range wrongTables() {
		for _, count := range []int{1, 2, 3, 16} {
			for _, i := range ends(count) {
				l := make([]api.Table, count)
				for j := range l {
					l[j] = api.Table{Ids: w.t.Ids}
				}
				l[i] = w.t
				got, err := Join(l)
				isNoTable(t, w.why, got, err, api.ErrTable)
			}
		}
	}
}

// P15.3: tables whose ids are not the same, or not in the same order, wherever one stands that has others.
func TestJoinOfOtherIds(t *testing.T) {
	r := seeded(6)
	for _, rows := range []int{1, 2, 3, 64, 255} {
		ids := someIds(r, rows)
		reversed := slices.Clone(ids)
		slices.Reverse(reversed)
		other := slices.Clone(ids)
		other[rows-1] = strangeTo(ids)
		for _, count := range []int{2, 3, 16} {
			for _, i := range ends(count) {
				l := make([]api.Table, count)
				for j := range l {
					l[j] = someOf(r, ids, r.IntN(3))
				}
				checkJoin(t, l)
				for _, wrong := range [][]int{nil, ids[1:], ids[:rows-1], append(slices.Clone(ids), strangeTo(ids)), reversed, other} {
					if slices.Equal(wrong, ids) {
						continue // one row, the other way round
					}
					l[i] = someOf(r, wrong, r.IntN(3))
					got, err := Join(l)
					isNoTable(t, "other ids", got, err, api.ErrTable)
				}
			}
		}
	}
}

// P15.3: every two tables of few rows, in any order.
func TestJoinOfAllSmall(t *testing.T) {
	r := seeded(7)
	for _, a := range arrangements(3) {
		for _, b := range arrangements(3) {
			for columns := range 3 {
				checkJoin(t, []api.Table{someOf(r, a, columns), someOf(r, b, 2-columns)})
			}
		}
	}
}

// P15.3: all Bins and columns, table by table; with no columns at all, and with more than 16 together.
func TestJoin(t *testing.T) {
	r := seeded(8)
	for _, rows := range []int{0, 1, 2, 5, 256} {
		for _, count := range []int{1, 2, 5, 16} {
			for _, most := range []int{0, 1, 3, 16} {
				l := make([]api.Table, count)
				ids := someIds(r, rows)
				together := 0
				for i := range l {
					columns := most
					if most == 3 {
						columns = r.IntN(most + 1)
					}
					together += columns
					l[i] = someOf(r, ids, columns)
				}
				checkJoin(t, l)
				got, _ := Join(l)
				if len(got.Cols) != together || len(got.Bins) != together || Right(got) != (together <= 16) {
					t.Error("of", together, "columns:", len(got.Cols), len(got.Bins), Right(got))
				}
			}
		}
	}
	for _, x := range manyTables() {
		got, err := Join([]api.Table{x})
		isTable(t, "of one", got, err, x)
	}
}

// P15.3: what was joined to more than 16 columns may not be, so no function takes it.
func TestJoinedTooMany(t *testing.T) {
	r := seeded(9)
	a, b := someOf(r, []int{4, 2}, 16), someOf(r, []int{4, 2}, 1)
	joined, err := Join([]api.Table{a, b})
	if err != api.OK || len(joined.Cols) != 17 || Right(joined) {
		t.Fatal("17 columns:", len(joined.Cols), err)
	}
	again, err := Join([]api.Table{joined})
	isNoTable(t, "Join", again, err, api.ErrTable)
	taken, err := Take(joined, []int{4})
	isNoTable(t, "Take", taken, err, api.ErrTable)
	s, err := Left(joined, 0, 0)
	isNoSet(t, "Left", s, err, api.ErrTable)
}
