package central

import (
	"math"
	"slices"
	"testing"

	"windbreak/api"
)

// three is a tree of a split and its leaves.
func three(root api.Node) api.Model { return model(nodes(root, leaf(3), leaf(-4))) }

// ofNodes is a tree of so many nodes, an odd number, each split of which has a leaf to its left.
func ofNodes(count int) []api.Node {
	var l []api.Node
	for len(l) < count-1 {
		l = append(l, splitBy(0, 0, 0, len(l)+1, len(l)+2), leaf(len(l)+5))
	}
	return append(l, leaf(7))
}

// P18.2: a model has at most 16 trees; it may have none.
func TestRightOfTrees(t *testing.T) {
	for n := range 20 {
		m := model(slices.Repeat([][]api.Node{{leaf(1)}}, n)...)
		if n <= 16 {
			isRight(t, m)
		} else {
			isWrong(t, m)
		}
	}
	isRight(t, api.Model{})
	isRight(t, api.Model{Trees: []api.Tree{}})
	isWrong(t, model(slices.Repeat([][]api.Node{{leaf(1)}}, 1000)...))
}

// P18.2: a tree has 1 to 63 nodes, wherever it stands.
func TestRightOfNodes(t *testing.T) {
	for n := 1; n <= 67; n += 2 {
		for _, trees := range [][][]api.Node{{ofNodes(n)}, {{leaf(1)}, ofNodes(n)}, {ofNodes(n), ofNodes(63)}, append(slices.Repeat([][]api.Node{{leaf(1)}}, 15), ofNodes(n))} {
			if n <= 63 {
				isRight(t, model(trees...))
			} else {
				isWrong(t, model(trees...))
			}
		}
	}
	for _, n := range []int{1, 2, 62, 63, 64, 65, 126, 127, 5000} {
		leaves := slices.Repeat([]api.Node{leaf(1)}, n) // none of them but the first one is ever reached
		if n <= 63 {
			isRight(t, model(leaves))
		} else {
			isWrong(t, model(leaves))
		}
	}
	for _, trees := range [][][]api.Node{{nil}, {{}}, {{leaf(1)}, nil}, {nil, {leaf(1)}}, append(slices.Repeat([][]api.Node{{leaf(1)}}, 15), nil)} {
		isWrong(t, model(trees...))
	}
}

// P18.2: a leaf's Weight is from -2^40 to 2^40, and all else in it is 0.
func TestRightOfLeaves(t *testing.T) {
	for weight, may := range map[int]bool{math.MinInt: false, -1 << 41: false, -1<<40 - 1: false, -1 << 40: true, -1<<40 + 1: true, -1: true, 0: true, 1: true, 1<<40 - 1: true, 1 << 40: true, 1<<40 + 1: false, 1 << 41: false, math.MaxInt: false} {
		for _, trees := range [][]api.Node{{leaf(weight)}, {splitBy(0, 0, 0, 1, 2), leaf(weight), leaf(1)}, {splitBy(0, 0, 0, 1, 2), leaf(1), leaf(weight)}, {leaf(1), leaf(weight)}} {
			for _, m := range []api.Model{model(trees), model(nodes(leaf(1)), trees)} {
				if may {
					isRight(t, m)
				} else {
					isWrong(t, m)
				}
			}
		}
	}
	for _, part := range []func(n *api.Node) *int{
		func(n *api.Node) *int { return &n.Party },
		func(n *api.Node) *int { return &n.Feature },
		func(n *api.Node) *int { return &n.Cut },
		func(n *api.Node) *int { return &n.Left },
		func(n *api.Node) *int { return &n.Right },
	} {
		for _, number := range append(far(), -2, -1, 1, 2, 3, 15, 31) {
			for _, weight := range []int{0, 5} {
				n := leaf(weight)
				*part(&n) = number
				isWrong(t, model(nodes(n)))
				isWrong(t, model(nodes(n, leaf(1), leaf(2), leaf(3))))
				isWrong(t, model(nodes(splitBy(0, 0, 0, 1, 2), leaf(1), n)))
				isWrong(t, model(nodes(splitBy(0, 0, 0, 1, 3), leaf(1), n, leaf(2))))
			}
		}
	}
	both := splitBy(0, 0, 0, 1, 2) // a leaf that has children
	both.Leaf = true
	isWrong(t, three(both))
}

// P18.2: of a split, each part by itself.
func TestRightOfSplits(t *testing.T) {
	isRight(t, three(splitBy(0, 0, 0, 1, 2)))
	isRight(t, three(splitBy(0, 0, 0, 2, 1)))
	isRight(t, three(splitBy(15, 1<<30, 31, 1, 2)))
	for _, e := range []struct {
		name        string
		at          func(n *api.Node) *int
		least, most int
	}{
		{"Weight", func(n *api.Node) *int { return &n.Weight }, 0, 0},
		{"Party", func(n *api.Node) *int { return &n.Party }, 0, 15},
		{"Feature", func(n *api.Node) *int { return &n.Feature }, 0, 1 << 30},
		{"Cut", func(n *api.Node) *int { return &n.Cut }, 0, 31},
	} {
		for _, number := range append(far(), -1<<40, -2, -1, 0, 1, 2, 14, 15, 16, 17, 30, 31, 32, 33, 1<<30-1, 1<<30, 1<<30+1, 1<<31, 1<<32, 1<<40) {
			n := splitBy(1, 1, 1, 1, 2)
			*e.at(&n) = number
			if number >= e.least && number <= e.most {
				isRight(t, three(n))
			} else {
				isWrong(t, three(n))
			}
		}
	}
}

// P18.2: of a split's children: behind its own place, below how many there are, and not the same; wherever it stands.
func TestRightOfChildren(t *testing.T) {
	for _, count := range []int{2, 3, 4, 5, 10, 63} {
		for _, place := range []int{0, 1, count / 2, count - 3, count - 2, count - 1} {
			if place < 0 || place >= count {
				continue
			}
			numbers := append(far(), -1, 0, 1, place-1, place, place+1, place+2, count-2, count-1, count, count+1, 63, 64)
			for _, left := range numbers {
				for _, right := range numbers {
					l := slices.Repeat([]api.Node{leaf(1)}, count)
					l[place] = splitBy(0, 0, 0, left, right)
					if left > place && left < count && right > place && right < count && left != right {
						isRight(t, model(l))
					} else {
						isWrong(t, model(l))
					}
				}
			}
		}
	}
	isWrong(t, model(nodes(splitBy(0, 0, 0, 1, 2))))
	isWrong(t, model(nodes(splitBy(0, 0, 0, 1, 2), leaf(1))))
	isWrong(t, model(nodes(splitBy(0, 0, 0, 0, 0))))
	isRight(t, model(nodes(splitBy(0, 0, 0, 1, 2), splitBy(0, 0, 0, 2, 3), leaf(1), leaf(2)))) // two have one child together
	isWrong(t, model(nodes(splitBy(0, 0, 0, 1, 2), splitBy(0, 0, 0, 0, 2), leaf(1))))          // a walk that would not end
}

// P18.2: of no trees, the score of any row is 0.
func TestEvalOfNoTrees(t *testing.T) {
	for _, m := range []api.Model{{}, {Trees: []api.Tree{}}} {
		isScore(t, m, nil, 0)
		isScore(t, m, [][]int{}, 0)
		isScore(t, m, [][]int{{1, 2}, nil}, 0)
	}
}

// P18.2: the row's number is held against the cut, each sort of both.
func TestEvalOfCuts(t *testing.T) {
	for _, cut := range []int{0, 1, 2, 15, 30, 31} {
		m := three(splitBy(0, 0, cut, 1, 2))
		other := three(splitBy(0, 0, cut, 2, 1))
		for _, n := range append(far(), cut-1, cut) {
			if n <= cut {
				isScore(t, m, [][]int{{n}}, 3)
				isScore(t, other, [][]int{{n}}, -4)
			}
		}
		for _, n := range append(far(), cut+1, cut+2) {
			if n > cut {
				isScore(t, m, [][]int{{n}}, -4)
				isScore(t, other, [][]int{{n}}, 3)
			}
		}
	}
}

// P18.2: the number is that party's, of that feature; ErrArg, if the row has no such party or feature.
func TestEvalOfParties(t *testing.T) {
	for _, party := range []int{0, 1, 2, 14, 15} {
		for _, feature := range []int{0, 1, 2, 15, 16, 100} {
			m := three(splitBy(party, feature, 5, 1, 2))
			row := make([][]int, 17)
			for i := range row {
				row[i] = slices.Repeat([]int{6}, 102)
			}
			isScore(t, m, row, -4)
			row[party][feature] = 5
			isScore(t, m, row, 3)
			isScore(t, m, row[:party+1], 3)
			isNoScore(t, m, row[:party])
			row[party] = row[party][:feature+1]
			isScore(t, m, row, 3)
			row[party] = row[party][:feature]
			isNoScore(t, m, row)
			row[party] = nil
			isNoScore(t, m, row)
			isNoScore(t, m, nil)
		}
	}
	isNoScore(t, three(splitBy(15, 1<<30, 31, 1, 2)), slices.Repeat([][]int{{1, 2, 3}}, 16))
}

// P18.2: what a row is not asked for, it need not have: the number of a tree's other side. What is asked for first is told by no other tree.
func TestEvalOfOneSide(t *testing.T) {
	l := nodes(splitBy(0, 0, 3, 1, 2), splitBy(1, 0, 3, 3, 4), splitBy(0, 2, 3, 5, 6), leaf(1), leaf(10), leaf(100), leaf(1000))
	m := model(l)
	isScore(t, m, [][]int{{3}, {3}}, 1)
	isScore(t, m, [][]int{{3}, {4}}, 10)
	isScore(t, m, [][]int{{4, 9, 3}}, 100)
	isScore(t, m, [][]int{{4, 9, 4}}, 1000)
	isNoScore(t, m, [][]int{{3}})
	isNoScore(t, m, [][]int{{3, 3, 3}, {}})
	isNoScore(t, m, [][]int{{4, 9}, {3}})
	isNoScore(t, m, [][]int{nil, {3}})
	isNoScore(t, model(nodes(leaf(5)), l), [][]int{{3}})
	isNoScore(t, model(l, nodes(leaf(5))), [][]int{{3}})
	isNoScore(t, model(l, l), [][]int{{3}})
	unreached := nodes(leaf(8), splitBy(15, 9, 3, 2, 3), leaf(1), leaf(2))
	isScore(t, model(unreached), nil, 8)
}

// P18.2: the sum of all trees, of the greatest weights too.
func TestEvalOfTrees(t *testing.T) {
	a, b := nodes(splitBy(0, 0, 0, 1, 2), leaf(3), leaf(-4)), nodes(splitBy(0, 1, 1, 2, 1), leaf(20), leaf(-50))
	m := model(a, b, nodes(leaf(100)), a)
	isScore(t, m, [][]int{{0, 0}}, 3-50+100+3)
	isScore(t, m, [][]int{{1, 0}}, -4-50+100-4)
	isScore(t, m, [][]int{{0, 2}}, 3+20+100+3)
	isScore(t, m, [][]int{{1, 2}}, -4+20+100-4)
	for n := range 17 {
		isScore(t, model(slices.Repeat([][]api.Node{{leaf(1 << 40)}}, n)...), nil, n<<40)
		isScore(t, model(slices.Repeat([][]api.Node{{leaf(-1 << 40)}}, n)...), nil, -n<<40)
	}
	for n := 1; n <= 63; n += 2 {
		isScore(t, model(ofNodes(n)), [][]int{{1}}, 7)
	}
	isScore(t, model(ofNodes(63)), [][]int{{0}}, 5)
}

// P18.2: ErrArg of a model that may not be, though the row would come to a leaf.
func TestEvalOfWrongModels(t *testing.T) {
	row := slices.Repeat([][]int{{0, 0, 0}}, 16)
	for _, m := range wrongModels() {
		isWrong(t, m)
		isNoScore(t, m, row)
		isNoScore(t, m, nil)
	}
}

// wrongModels are models that may not be, each for one reason alone.
func wrongModels() []api.Model {
	odd := leaf(5)
	odd.Cut = 1
	heavy := splitBy(0, 0, 0, 1, 2)
	heavy.Weight = 1
	return []api.Model{
		model(nil),
		model(nodes(leaf(1)), nil),
		model(slices.Repeat([][]api.Node{{leaf(1)}}, 17)...),
		model(ofNodes(65)),
		model(slices.Repeat([]api.Node{leaf(1)}, 64)),
		model(nodes(leaf(1<<40 + 1))),
		model(nodes(leaf(-1<<40 - 1))),
		model(nodes(odd)),
		model(nodes(leaf(1), odd)),
		model(nodes(splitBy(0, 0, 0, 1, 2), leaf(1), odd)),
		three(heavy),
		three(splitBy(-1, 0, 0, 1, 2)),
		three(splitBy(16, 0, 0, 1, 2)),
		three(splitBy(0, -1, 0, 1, 2)),
		three(splitBy(0, 1<<30+1, 0, 1, 2)),
		three(splitBy(0, 0, -1, 1, 2)),
		three(splitBy(0, 0, 32, 1, 2)),
		three(splitBy(0, 0, 0, 0, 2)),
		three(splitBy(0, 0, 0, 1, 0)),
		three(splitBy(0, 0, 0, 1, 1)),
		three(splitBy(0, 0, 0, 1, 3)),
		three(splitBy(0, 0, 0, 3, 2)),
		three(splitBy(0, 0, 0, -1, 2)),
		three(splitBy(0, 0, 0, math.MinInt, math.MaxInt)),
		model(nodes(leaf(1), splitBy(0, 0, 0, 1, 2), leaf(2))),
	}
}
