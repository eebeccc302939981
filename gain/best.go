package gain

import (
	"windbreak/api"
	"windbreak/rational"
)

// Best are the places of the splits that add most; none, if none adds enough.
func Best(lambda, gamma int, all api.Sum, lefts []api.Sum) ([]int, api.Errno) {
	if !isFrom(gamma, 0, mostGamma) || len(lefts) > api.MaxList || !isLambda(lambda) || !areSplits(lefts, all) {
		return nil, api.ErrArg
	}
	// A gain is what both sides are worth, less what all are, which is the same of each split: so both sides are compared alone.
	best := enough(lambda, gamma, all)
	var places []int
	keep := func(place int, left api.Sum) {
		if !isFrom(left.H, 1, all.H-1) {
			return
		}
		worth := apart(lambda, left, all)
		switch rational.Cmp(worth, best) {
		case 1:
			best, places = worth, []int{place}
		case 0:
			if len(places) > 0 { // else it is just enough, and not above that
				places = append(places, place)
			}
		}
	}
	for place, left := range lefts {
		keep(place, left)
	}
	return places, api.OK
}

// areSplits is whether all rows' sums may be, and with them each split.
func areSplits(lefts []api.Sum, all api.Sum) bool {
	for _, left := range lefts {
		if !isSplit(left, all) {
			return false
		}
	}
	return isSum(all)
}

// enough is what both sides of a split are to be worth more than: all's score, and gamma.
func enough(lambda, gamma int, all api.Sum) api.Frac {
	least, _ := rational.Make(whole(gamma), whole(1).Mag)
	sum, _ := rational.Add(score(lambda, all), least)
	return sum
}
