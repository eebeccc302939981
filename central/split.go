package central

import (
	"windbreak/api"
	"windbreak/bitset"
	"windbreak/dataset"
	"windbreak/gain"
)

// split is one that a node may be: whose, of which feature, where; and which of all rows are to its left.
type split struct {
	party, feature, cut int
	left                api.Bits
}

// allSplits are those of all tables, in their order. They are the same for each node, so they are made once.
func allSplits(tables []api.Table) []split {
	var all []split
	for party, t := range tables {
		for feature, bins := range t.Bins {
			for cut := range bins - 1 {
				left, _ := dataset.Left(t, feature, cut)
				all = append(all, split{party, feature, cut, left})
			}
		}
	}
	return all
}

// first is the first one of the best splits of a node's rows; false: there is none. They are fewer than gain.Best takes, and no sum is too great for it, so there are no errors.
func first(c api.Config, splits []split, g []int, rows api.Bits) (split, bool) {
	lefts := make([]api.Sum, len(splits))
	for i, s := range splits {
		both, _ := bitset.And(rows, s.left)
		lefts[i] = sumOf(g, both)
	}
	best, _ := gain.Best(c.Lambda, c.Gamma, sumOf(g, rows), lefts)
	if len(best) == 0 {
		return split{}, false
	}
	return splits[best[0]], true
}

// sumOf is the sum of some rows' numbers, and how many they are.
func sumOf(g []int, rows api.Bits) api.Sum {
	var s api.Sum
	for _, row := range bitset.List(rows) {
		s.G += g[row]
		s.H++
	}
	return s
}
