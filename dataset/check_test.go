package dataset

import (
	"slices"
	"testing"

	"windbreak/api"
)

// checkRight asks Right of a table, against the other reckoning.
func checkRight(t testing.TB, x api.Table) {
	t.Helper()
	if got, want := Right(x), allowed(x); got != want {
		t.Errorf("%v: right %v, asked %v", brief(x), got, want)
	}
}

// checkAlign asks Align of lists, against the document's words, list by list.
func checkAlign(t testing.TB, l [][]int) {
	t.Helper()
	got, err := Align(l)
	if len(l) == 0 || len(l) > 16 {
		isNoList(t, "Align", got, err, api.ErrArg)
		return
	}
	for _, ids := range l {
		if !allowedIds(ids) {
			isNoList(t, "Align", got, err, api.ErrTable)
			return
		}
	}
	want := slices.Sorted(slices.Values(l[0]))
	for _, ids := range l {
		want = slices.DeleteFunc(want, func(id int) bool { return !slices.Contains(ids, id) })
	}
	isList(t, "Align", got, err, want)
}

// checkTake asks Take of a table, against the document's words, row by row.
func checkTake(t testing.TB, x api.Table, ids []int) {
	t.Helper()
	got, err := Take(x, ids)
	right := allowed(x) && allowedIds(ids)
	for _, id := range ids {
		right = right && slices.Contains(x.Ids, id)
	}
	if !right {
		isNoTable(t, "Take", got, err, api.ErrTable)
		return
	}
	want := api.Table{Ids: ids, Bins: x.Bins, Cols: make([][]int, len(x.Cols))}
	for _, id := range ids {
		row := slices.Index(x.Ids, id)
		for c := range x.Cols {
			want.Cols[c] = append(want.Cols[c], x.Cols[c][row])
		}
	}
	isTable(t, "Take", got, err, want)
}

// checkJoin asks Join of tables, against the document's words, table by table.
func checkJoin(t testing.TB, l []api.Table) {
	t.Helper()
	got, err := Join(l)
	if len(l) == 0 || len(l) > 16 {
		isNoTable(t, "Join", got, err, api.ErrArg)
		return
	}
	want := api.Table{Ids: l[0].Ids}
	for _, x := range l {
		if !allowed(x) || !slices.Equal(x.Ids, l[0].Ids) {
			isNoTable(t, "Join", got, err, api.ErrTable)
			return
		}
		want.Bins = slices.Concat(want.Bins, x.Bins)
		want.Cols = slices.Concat(want.Cols, x.Cols)
	}
	isTable(t, "Join", got, err, want)
}

// checkLeft asks Left of a table's column and a cut, against the document's words, row by row.
func checkLeft(t testing.TB, x api.Table, column, cut int) {
	t.Helper()
	got, err := Left(x, column, cut)
	if !allowed(x) {
		isNoSet(t, "Left", got, err, api.ErrTable)
		return
	}
	if column < 0 || column >= len(x.Cols) || cut < 0 || cut >= x.Bins[column] {
		isNoSet(t, "Left", got, err, api.ErrArg)
		return
	}
	var places []int
	for row := range x.Ids {
		if x.Cols[column][row] <= cut {
			places = append(places, row)
		}
	}
	isSet(t, "Left", got, err, bitsOf(len(x.Ids), places))
}
