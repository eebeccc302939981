package hist

import (
	"slices"

	"windbreak/api"
)

// Plain are, cut by cut, the sums of the numbers of the rows to the left, and how many these are.
func Plain(t api.Table, rows api.Bits, g []int) ([]api.Sum, api.Errno) {
	if err := faultOf(t, rows, len(g)); err != api.OK {
		return nil, err
	}
	if slices.ContainsFunc(g, isTooGreat) {
		return nil, api.ErrArg
	}
	var sums []api.Sum
	for _, left := range leftsOf(t, rows) {
		sum := api.Sum{H: len(left)}
		for _, row := range left {
			sum.G += g[row]
		}
		sums = append(sums, sum)
	}
	return sums, api.OK
}

func isTooGreat(g int) bool {
	return g < -api.MaxLabel || g > api.MaxLabel
}
