package central

import (
	"math"
	"slices"
	"testing"

	"windbreak/api"
)

// P18.3: the bytes and the sum of a few models.
func TestSum(t *testing.T) {
	example := nodes(splitBy(0, 0, 0, 1, 2), leaf(6), leaf(-7))
	isSum(t, api.Model{}, 880851939, 0)
	isSum(t, model(nodes(leaf(0))), 652985073, 1, 1, 1, 0, 0, 0, 0, 0, 0)
	isSum(t, model(nodes(leaf(6))), 991654639, 1, 1, 1, 12, 0, 0, 0, 0, 0)
	isSum(t, model(nodes(leaf(-7))), 164382214, 1, 1, 1, 13, 0, 0, 0, 0, 0)
	isSum(t, model(example), 806017229, 1, 3, 0, 0, 0, 0, 0, 2, 4, 1, 12, 0, 0, 0, 0, 0, 1, 13, 0, 0, 0, 0, 0)
	isSum(t, model(example, nodes(leaf(1<<40))), 1034545327, 2, 3, 0, 0, 0, 0, 0, 2, 4, 1, 12, 0, 0, 0, 0, 0, 1, 13, 0, 0, 0, 0, 0, 1, 1, 128, 128, 128, 128, 128, 64, 0, 0, 0, 0, 0)
	isSum(t, model(nodes(leaf(-1<<40)), nodes(splitBy(15, 1<<30, 31, 2, 1), leaf(1), leaf(64))), 282653306, 2, 1, 1, 255, 255, 255, 255, 255, 63, 0, 0, 0, 0, 0, 3, 0, 0, 30, 128, 128, 128, 128, 8, 62, 4, 2, 1, 2, 0, 0, 0, 0, 0, 1, 128, 1, 0, 0, 0, 0, 0)
}

// P18.3: the sum of a model that may not be: of trees of no nodes, of a leaf that has all.
func TestSumOfWrongModels(t *testing.T) {
	isSum(t, model(nil, nil), 1060193119, 2, 0, 0)
	odd := api.Node{Leaf: true, Weight: math.MinInt, Party: math.MaxInt, Feature: math.MinInt, Cut: math.MaxInt, Left: -1, Right: 1 << 32}
	isSum(t, model(nodes(odd)), 643749481, 1, 1, 1, 255, 255, 255, 255, 255, 255, 255, 255, 255, 1, 254, 255, 255, 255, 255, 255, 255, 255, 255, 1, 255, 255, 255, 255, 255, 255, 255, 255, 255, 1, 254, 255, 255, 255, 255, 255, 255, 255, 255, 1, 1, 128, 128, 128, 128, 32)
	for _, m := range wrongModels() {
		checkSum(t, m)
	}
	checkSum(t, model(slices.Repeat([][]api.Node{{leaf(1)}}, 128)...))
	checkSum(t, model(slices.Repeat([]api.Node{splitBy(1, 2, 3, 4, 5)}, 300)))
}

// P18.3: each part, of numbers below 0, of 0, and of the least and the greatest ones.
func TestSumOfParts(t *testing.T) {
	for _, part := range []func(n *api.Node) *int{
		func(n *api.Node) *int { return &n.Weight },
		func(n *api.Node) *int { return &n.Party },
		func(n *api.Node) *int { return &n.Feature },
		func(n *api.Node) *int { return &n.Cut },
		func(n *api.Node) *int { return &n.Left },
		func(n *api.Node) *int { return &n.Right },
	} {
		for _, number := range append(far(), -1<<40, -65, -64, -63, -2, -1, 0, 1, 2, 62, 63, 64, 65, 127, 128, 1<<30, 1<<40) {
			for _, isLeaf := range []bool{false, true} {
				n := splitBy(7, 8, 9, 10, 11)
				n.Leaf = isLeaf
				*part(&n) = number
				checkSum(t, model(nodes(n)))
				checkSum(t, model(nodes(leaf(1), n, leaf(2)), nodes(n)))
			}
		}
	}
}

// P18.3: of as many trees as may be, of as many nodes each; of one less and one more. The sum is no greater than a message's number may be.
func TestSumOfMany(t *testing.T) {
	for _, trees := range []int{1, 2, 15, 16, 17} {
		for _, count := range []int{1, 2, 3, 62, 63, 64, 65} {
			m := model(slices.Repeat([][]api.Node{slices.Repeat([]api.Node{splitBy(15, 1<<30, 31, 61, 62)}, count)}, trees)...)
			checkSum(t, m)
			if s := Sum(m); s < 0 || s >= 1<<30 {
				t.Error("sum", s)
			}
		}
	}
	r := seeded(4)
	for range 2000 {
		checkSum(t, anyModel(r))
		checkSum(t, someModel(r))
	}
}
