package dataset

import (
	"slices"

	"windbreak/api"
	"windbreak/bitset"
)

// Take is a table's rows of some ids, in their order.
func Take(t api.Table, ids []int) (api.Table, api.Errno) {
	if !Right(t) || !areIds(ids) {
		return api.Table{}, api.ErrTable
	}
	places, ok := placesOf(ids, t.Ids)
	if !ok {
		return api.Table{}, api.ErrTable
	}
	taken := api.Table{Ids: slices.Clone(ids), Bins: slices.Clone(t.Bins)}
	for _, column := range t.Cols {
		taken.Cols = append(taken.Cols, binsAt(column, places))
	}
	return taken, api.OK
}

// placesOf are the places of all at which some ids stand; false: one stands at none.
func placesOf(ids, all []int) ([]int, bool) {
	where := make(map[int]int, len(all))
	for place, id := range all {
		where[id] = place
	}
	places := make([]int, len(ids))
	for i, id := range ids {
		place, ok := where[id]
		if !ok {
			return nil, false
		}
		places[i] = place
	}
	return places, true
}

// binsAt are a column's numbers at some places, in their order.
func binsAt(column, places []int) []int {
	bins := make([]int, len(places))
	for i, place := range places {
		bins[i] = column[place]
	}
	return bins
}

// Left are the rows, by their places, whose bin of a column is at most a cut.
func Left(t api.Table, column, cut int) (api.Bits, api.Errno) {
	if !Right(t) {
		return api.Bits{}, api.ErrTable
	}
	if column < 0 || column >= len(t.Cols) || !isFrom(cut, 0, t.Bins[column]-1) {
		return api.Bits{}, api.ErrArg
	}
	var places []int
	for place, bin := range t.Cols[column] {
		if bin <= cut {
			places = append(places, place)
		}
	}
	return bitset.Of(len(t.Ids), places)
}
