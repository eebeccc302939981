package dataset

import (
	"slices"

	"windbreak/api"
)

// Align are the ids that all lists have, rising.
func Align(l [][]int) ([]int, api.Errno) {
	if err := ask(l, areIds); err != api.OK {
		return nil, err
	}
	times := counts(l...)
	var ids []int
	for _, id := range l[0] {
		// No list has an id twice, so this one stands in all of them.
		if times[id] == len(l) {
			ids = append(ids, id)
		}
	}
	slices.Sort(ids)
	return ids, api.OK
}

// Join is a table of the columns of some, of the same ids.
func Join(l []api.Table) (api.Table, api.Errno) {
	err := ask(l, func(t api.Table) bool { return Right(t) && slices.Equal(t.Ids, l[0].Ids) })
	if err != api.OK {
		return api.Table{}, err
	}
	joined := api.Table{Ids: slices.Clone(l[0].Ids)}
	for _, t := range l {
		joined.Bins = append(joined.Bins, t.Bins...)
		for _, column := range t.Cols {
			joined.Cols = append(joined.Cols, slices.Clone(column))
		}
	}
	return joined, api.OK
}

// ask is what is asked of the lists, or the tables, of all parties: whether there are as many as may be, and each may be one.
func ask[T any](l []T, mayBe func(T) bool) api.Errno {
	if len(l) == 0 || len(l) > api.MaxParties {
		return api.ErrArg
	}
	if !each(l, mayBe) {
		return api.ErrTable
	}
	return api.OK
}
