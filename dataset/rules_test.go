package dataset

import (
	"fmt"
	"math"
	"slices"
	"sync"
	"testing"

	"windbreak/api"
)

// roomy is a list with marks behind its end, in the room that it has.
func roomy[T any](l []T, mark T) []T {
	return append(slices.Clone(l), mark, mark, mark)[:len(l)]
}

// roomyTable is a table each of whose lists has room, with marks in it.
func roomyTable(t api.Table) api.Table {
	t = api.Table{Ids: roomy(t.Ids, 71), Bins: roomy(t.Bins, 72), Cols: roomy(t.Cols, []int{73})}
	for i, column := range t.Cols {
		t.Cols[i] = roomy(column, 74)
	}
	return t
}

// whole is all that a list has, in the room behind its end too.
func whole(l []int) string { return fmt.Sprint(len(l), l[:cap(l)]) }

func wholeTable(t api.Table) string {
	all := whole(t.Ids) + whole(t.Bins) + fmt.Sprint(len(t.Cols))
	for _, column := range t.Cols[:cap(t.Cols)] {
		all += whole(column)
	}
	return all
}

// spoil overwrites all that an answer could reach, behind its end too.
func spoil[T int | uint64](l []T) {
	l = l[:cap(l)]
	for i := range l {
		l[i] ^= 0x55
	}
	_ = append(l, 9, 9, 9)
}

// spoilTable overwrites all lists of a table, and then the list of columns.
func spoilTable(t api.Table) {
	spoil(t.Ids)
	spoil(t.Bins)
	for _, column := range t.Cols {
		spoil(column)
	}
	all := t.Cols[:cap(t.Cols)]
	for i := range all {
		all[i] = []int{99}
	}
}

// R3: tables and ids that are handed in stay as they are, behind their end too, be they such as may be or not; and what is told is shared with none.
func TestTablesStay(t *testing.T) {
	tables := manyTables()[:60]
	for _, w := range wrongTables()[:300] {
		tables = append(tables, w.t)
	}
	for _, x := range tables {
		given := roomyTable(x)
		ids := roomy(x.Ids, 75)
		before, idsBefore := wholeTable(given), whole(ids)
		Right(given)
		taken, _ := Take(given, ids)
		spoilTable(taken)
		taken, _ = Take(given, ids[:len(ids)/2])
		spoilTable(taken)
		for column := range min(len(given.Cols), 2) {
			left, _ := Left(given, column, 0)
			spoil(left.W)
		}
		if wholeTable(given) != before || whole(ids) != idsBefore {
			t.Fatal("changed:", brief(x))
		}
	}
}

// R3: lists that are handed to Align stay as they are, behind their end too, with a wrong one among them too.
func TestListsStay(t *testing.T) {
	for _, last := range [][]int{{3, 1, 2}, {5, 1, 3}, {1, 1}, nil, rising(300)} {
		all := [][]int{roomy([]int{3, 1, 2}, 71), roomy([]int{2, 3, 1, 9}, 71), roomy(last, 71), {8, 7}}
		state := func() string {
			var text string
			for _, l := range all {
				text += whole(l)
			}
			return text
		}
		before := state()
		for count := range 4 {
			ids, _ := Align(all[:count])
			spoil(ids)
			if state() != before {
				t.Fatal("lists were changed:", all)
			}
		}
	}
}

// R3: tables that are handed to Join stay as they are, behind their end too, with a wrong one among them too.
func TestJoinedStay(t *testing.T) {
	r := seeded(14)
	for _, last := range [][]int{{3, 1, 2}, {2, 1, 3}, {1, 1}, nil, rising(300)} {
		all := []api.Table{roomyTable(someOf(r, []int{3, 1, 2}, 2)), roomyTable(someOf(r, []int{3, 1, 2}, 1)), roomyTable(someOf(r, last, 1)), {Ids: []int{7}}}
		state := func() string {
			var text string
			for _, x := range all {
				text += wholeTable(x)
			}
			return text
		}
		before := state()
		for count := range 4 {
			joined, _ := Join(all[:count])
			spoilTable(joined)
			if state() != before {
				t.Fatal("tables were changed:", all)
			}
		}
	}
}

// lists are all lists of numbers that a table has.
func lists(t api.Table) [][]int {
	return append([][]int{t.Ids, t.Bins}, t.Cols...)
}

// R3: no two lists of one answer share memory, nor do two answers.
func TestAnswersAreApart(t *testing.T) {
	r := seeded(15)
	x, y := someOf(r, []int{3, 1, 2}, 3), someOf(r, []int{3, 1, 2}, 2)
	x.Cols[1] = x.Cols[0]
	calls := []func() (api.Table, api.Errno){
		func() (api.Table, api.Errno) { return Take(x, []int{2, 3}) },
		func() (api.Table, api.Errno) { return Take(x, x.Ids) },
		func() (api.Table, api.Errno) { return Join([]api.Table{x}) },
		func() (api.Table, api.Errno) { return Join([]api.Table{x, x, y, y, x}) },
	}
	for i, call := range calls {
		other, _ := call()
		want := wholeTable(other)
		first, _ := call()
		for at := range lists(first) {
			told, _ := call()
			fresh := copied(told)
			spoil(lists(told)[at])
			for j, l := range lists(told) {
				if j != at && !slices.Equal(l, lists(fresh)[j]) {
					t.Fatal("call", i, "lists", at, "and", j, "are shared")
				}
			}
		}
		spoilTable(first)
		if wholeTable(other) != want {
			t.Fatal("call", i, "shares what it told")
		}
	}
}

// R3: what was told stays as it is when what was handed in changes.
func TestToldStays(t *testing.T) {
	r := seeded(16)
	for range 20 {
		x := someOf(r, someIds(r, 1+r.IntN(9)), 1+r.IntN(4))
		ids := slices.Clone(x.Ids)
		slices.Reverse(ids)
		given := [][]int{slices.Clone(ids), slices.Clone(ids)}
		tables := []api.Table{x, x}
		aligned, _ := Align(given)
		taken, _ := Take(x, ids)
		joined, _ := Join(tables)
		left, _ := Left(x, 0, 0)
		before := fmt.Sprint(aligned, taken, joined, left)
		spoil(given[0])
		spoil(given[1])
		spoil(ids)
		spoilTable(x)
		tables[0], tables[1] = api.Table{}, api.Table{}
		if fmt.Sprint(aligned, taken, joined, left) != before {
			t.Fatal("hangs on what was handed in")
		}
	}
}

// R2: nil and empty are the same, handed in and out.
func TestNilAndEmpty(t *testing.T) {
	for _, none := range [][]int{nil, {}, make([]int, 0, 3)} {
		for _, columns := range [][][]int{nil, {}, make([][]int, 0, 3)} {
			x := api.Table{Ids: none, Bins: none, Cols: columns}
			if !Right(x) {
				t.Error("may be:", x)
			}
			checkTake(t, x, none)
			checkJoin(t, []api.Table{x, {}, x})
			checkLeft(t, x, 0, 0)
			checkAlign(t, [][]int{none, nil, {}, none})
		}
		x := api.Table{Ids: none, Bins: []int{2, 32}, Cols: [][]int{none, nil}}
		if !Right(x) {
			t.Error("may be:", x)
		}
		checkTake(t, x, none)
		checkTake(t, x, []int{0})
		checkJoin(t, []api.Table{{}, x, {Ids: []int{}}, x})
		checkLeft(t, x, 0, 1)
		checkLeft(t, x, 1, 31)
		checkLeft(t, x, 1, 32)
		checkRight(t, api.Table{Ids: []int{1}, Bins: none, Cols: [][]int{none}})
		checkRight(t, api.Table{Ids: []int{1}, Bins: []int{2}, Cols: [][]int{none}})
	}
}

// told is all that calls tell of some tables, one behind the other.
func told() string {
	r := seeded(17)
	var all string
	for rows := range 12 {
		ids := someIds(r, rows)
		x, y := someOf(r, ids, 3), someOf(r, ids, 2)
		slices.Sort(ids)
		aligned, err1 := Align([][]int{x.Ids, ids, ids[rows/3:]})
		taken, err2 := Take(x, aligned)
		joined, err3 := Join([]api.Table{x, y})
		left, err4 := Left(joined, 4, 0)
		wrong, err5 := Join([]api.Table{x, taken})
		all += fmt.Sprintln(aligned, err1, taken, err2, joined, err3, left, err4, wrong, err5, Right(x))
	}
	return all
}

// R4: the same is told whatever was asked ahead, and by many that ask at one time.
func TestNothingKept(t *testing.T) {
	want := told()
	for _, w := range wrongTables() {
		Right(w.t)
		Take(w.t, w.t.Ids)
	}
	if told() != want {
		t.Error("another answer behind other calls")
	}
	var wait sync.WaitGroup
	var all [8]string
	for i := range all {
		wait.Go(func() { all[i] = told() })
	}
	wait.Wait()
	for i := range all {
		if all[i] != want {
			t.Error("another answer at one time with others")
		}
	}
}

// R4: what is told does not hang on the order of a map.
func TestSameEachTime(t *testing.T) {
	r := seeded(18)
	ids := someIds(r, 256)
	x := someOf(r, ids, 4)
	back := slices.Clone(ids)
	slices.Reverse(back)
	aligned, _ := Align([][]int{ids, back})
	taken, _ := Take(x, back)
	for range 50 {
		again, err := Align([][]int{ids, back})
		isList(t, "Align", again, err, aligned)
		table, err := Take(x, back)
		isTable(t, "Take", table, err, taken)
	}
}

// reader tells numbers one by one, and 0 when they end.
func reader[T byte | int](l []T) func() int {
	return func() int {
		if len(l) == 0 {
			return 0
		}
		first := l[0]
		l = l[1:]
		return int(first)
	}
}

// anyTable is a table of a few rows, maybe a wrong one, made of numbers below 256.
func anyTable(next func() int) api.Table {
	some := func(n int) int {
		if b := next(); b < 250 {
			return b % n
		}
		return []int{math.MinInt, -1, n, 1 << 30, 1<<30 + 1, math.MaxInt}[next()%6]
	}
	rows := next() % 5
	x := api.Table{}
	for range rows {
		x.Ids = append(x.Ids, some(6))
	}
	for range next() % 4 {
		x.Bins = append(x.Bins, 1+some(34))
		var column []int
		for range rows {
			column = append(column, some(3))
		}
		x.Cols = append(x.Cols, column)
	}
	switch next() {
	case 251:
		x.Bins = append(x.Bins, 2)
	case 252:
		x.Cols = append(x.Cols, nil)
	case 253:
		x.Cols = append(x.Cols, x.Ids)
	}
	return x
}

// checkAny asks all calls of some tables, with any ids, column and cut, against the other reckonings.
func checkAny(t testing.TB, next func() int, i, j int) {
	t.Helper()
	x, y := anyTable(next), anyTable(next)
	same := y
	same.Ids = x.Ids
	for _, z := range []api.Table{x, y, same} {
		checkRight(t, z)
		checkTake(t, z, x.Ids)
		checkTake(t, z, []int{i, j})
		checkLeft(t, z, i, j)
		checkLeft(t, z, 0, i)
		checkLeft(t, z, j, 1)
		checkAlign(t, [][]int{x.Ids, z.Ids, {i, j}})
		checkAlign(t, [][]int{z.Ids, x.Ids})
		checkJoin(t, []api.Table{x, z})
		checkJoin(t, []api.Table{z, x, z})
	}
	if allowed(x) && allowed(y) {
		checkTogether(t, []api.Table{x, y})
	}
}

// P1: no call panics, whatever it is given.
func TestAnyArguments(t *testing.T) {
	r := seeded(19)
	number := func() int {
		if r.IntN(2) == 0 {
			return append(noIds(), 16, 17, 31, 32, 1<<30)[r.IntN(len(noIds())+5)]
		}
		return r.IntN(8) - 2
	}
	var told [2]int
	for range 20000 {
		script := make([]int, 60)
		for i := range script {
			script[i] = r.IntN(256)
		}
		checkAny(t, reader(script), number(), number())
		if Right(anyTable(reader(script))) {
			told[1]++
		} else {
			told[0]++
		}
	}
	if told[0] < 5000 || told[1] < 3000 {
		t.Error("how many may not be, and how many may:", told)
	}
}

// FuzzTables looks for tables at which a call panics, or tells another thing than another reckoning.
func FuzzTables(f *testing.F) {
	f.Add([]byte{3, 3, 1, 2, 1, 1, 0, 1, 1, 0, 2, 2, 3, 1, 5, 1, 0}, 2, 3)
	f.Add([]byte{2, 5, 5, 0, 0, 4, 1, 2, 3, 4}, 0, 1)
	f.Add([]byte{4, 0, 1, 2, 3, 3, 1, 0, 1, 2, 0, 2, 30, 0, 0, 0, 253}, math.MinInt, 31)
	f.Add([]byte{}, -1, math.MaxInt)
	f.Fuzz(func(t *testing.T, b []byte, i, j int) {
		checkAny(t, reader(b), i, j)
	})
}
