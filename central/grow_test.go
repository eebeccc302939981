package central

import (
	"container/heap"
	"math/rand/v2"
	"slices"
	"testing"

	"windbreak/api"
)

// P18.1: rows that no split parts, though their labels are not the same.
func TestNoSplits(t *testing.T) {
	labels := []int{10, 10, -10, -11}
	for _, l := range [][]api.Table{
		{bare(4)},
		{bare(4), bare(4)},
		{table(2, []int{0, 0, 0, 0})},
		{table(2, []int{1, 1, 1, 1})},
		{table(32, []int{31, 31, 31, 31}, []int{0, 0, 0, 0}), bare(4), table(5, []int{3, 3, 3, 3})},
	} {
		isTrained(t, many(1, 5), l, labels, nodes(leaf(-1)))
		isTrained(t, many(2, 1), l, []int{5, 5, 5, 5}, nodes(leaf(4)), nodes(leaf(0)))
	}
}

// P18.1: a split that gains nothing is none, as Gamma is 0 at least: of numbers of 0, and of rows that are the same.
func TestNoGain(t *testing.T) {
	columns := table(4, []int{0, 1, 2, 3}, []int{1, 0, 1, 0})
	isTrained(t, many(1, 5), tables(columns), []int{0, 0, 0, 0}, nodes(leaf(0)))
	isTrained(t, many(1, 5), tables(columns), []int{10, 10, 10, 10}, nodes(leaf(8)))
	isTrained(t, many(1, 5), tables(table(2, []int{0, 0, 1, 1})), []int{10, -10, 10, -10}, nodes(leaf(0)))
}

// P18.1: a gain that is Gamma is none; one just above is enough.
func TestGamma(t *testing.T) {
	_, l, labels := example()
	parted := func(left, right int) []api.Node { return nodes(splitBy(0, 0, 0, 1, 2), leaf(left), leaf(right)) }
	// Both sides are worth 400 by 4, all 0: 200 in all.
	isTrained(t, above(2, 199), l, labels, parted(5, -5))
	isTrained(t, above(2, 200), l, labels, nodes(leaf(0)))
	isTrained(t, above(2, 201), l, labels, nodes(leaf(0)))
	// Both are worth 400 by 3: 266 and 2 by 3 in all.
	isTrained(t, above(1, 266), l, labels, parted(6, -7))
	isTrained(t, above(1, 267), l, labels, nodes(leaf(0)))
	// Of two rows, a and 1 - a, and Lambda 2a - 1, the gain is a - 1, and 1 by 2a times (2a + 1).
	pair := tables(table(2, []int{0, 1}))
	for _, a := range []int{1, 2, 3, 1000, 1 << 19} {
		isTrained(t, above(2*a-1, a-1), pair, []int{a, 1 - a}, nodes(splitBy(0, 0, 0, 1, 2), leaf(0), leaf(-1+(a+1)/(2*a))))
		isTrained(t, above(2*a-1, a), pair, []int{a, 1 - a}, nodes(leaf(0)))
	}
	isTrained(t, above(1, 1<<20), pair, []int{1 << 10, -1 << 10}, nodes(leaf(0)))
	isTrained(t, above(1, 1<<20), pair, []int{1<<10 + 1, -1<<10 - 1}, nodes(splitBy(0, 0, 0, 1, 2), leaf(512), leaf(-513)))
}

// P18.1: of splits that gain the same, the first one, by party, feature and cut.
func TestFirstOfBest(t *testing.T) {
	labels := []int{10, 10, -10, -10}
	ways := map[string][]int{"same": {0, 0, 1, 1}, "exchanged": {1, 1, 0, 0}}
	useless := []int{0, 1, 0, 1}
	parted := func(party, feature, cut, left, right int) []api.Node {
		return nodes(splitBy(party, feature, cut, 1, 2), leaf(left), leaf(right))
	}
	for _, first := range ways {
		left, right := 6, -7
		if first[0] == 1 {
			left, right = right, left
		}
		for _, second := range ways {
			isTrained(t, one(), tables(table(2, first), table(2, second)), labels, parted(0, 0, 0, left, right))
			isTrained(t, one(), tables(table(2, first, second)), labels, parted(0, 0, 0, left, right))
			isTrained(t, one(), tables(bare(4), table(2, first, second), table(2, second)), labels, parted(1, 0, 0, left, right))
			isTrained(t, one(), tables(table(2, useless), table(2, useless, first), table(2, second)), labels, parted(1, 1, 0, left, right))
			isTrained(t, one(), tables(table(2, useless, useless), bare(4), table(2, useless, useless, first, second)), labels, parted(2, 2, 0, left, right))
		}
	}
	wide := []int{1, 1, 4, 4} // cuts 1, 2 and 3 part the same rows
	isTrained(t, one(), tables(table(6, wide)), labels, parted(0, 0, 1, 6, -7))
	isTrained(t, one(), tables(table(6, useless, wide, wide)), labels, parted(0, 1, 1, 6, -7))
	isTrained(t, one(), tables(table(6, wide), table(2, []int{0, 0, 1, 1})), labels, parted(0, 0, 1, 6, -7))
}

// P18.1: the one that gains most, wherever it stands; the last cut of 32 bins too.
func TestBestWhereverItStands(t *testing.T) {
	labels := []int{10, 10, -10, -10}
	worse, best := []int{0, 1, 1, 1}, []int{30, 30, 31, 31}
	for _, parties := range []int{1, 2, 16} {
		for _, features := range []int{1, 2, 16} {
			for _, party := range []int{0, parties / 2, parties - 1} {
				for _, feature := range []int{0, features / 2, features - 1} {
					var l []api.Table
					for range parties {
						l = append(l, table(32, slices.Repeat([][]int{worse}, features)...))
					}
					l[party].Cols[feature] = best
					isTrained(t, one(), l, labels, nodes(splitBy(party, feature, 30, 1, 2), leaf(6), leaf(-7)))
				}
			}
		}
	}
}

// P18.1: nodes are looked at by their places, and children put behind all of them: reckoned by hand.
func TestPlaces(t *testing.T) {
	l := tables(table(4, []int{0, 1, 2, 3}))
	// All are G 8, H 4; cut 1 leaves -8 and 16, which gains most. To its left, -8 and 0 are parted; to its right, 8 and 8 are not.
	isTrained(t, many(1, 1), l, []int{8, 0, -8, -8}, nodes(splitBy(0, 0, 1, 1, 2), leaf(2), leaf(-6)))
	for depth := 2; depth <= 5; depth++ {
		isTrained(t, many(1, depth), l, []int{8, 0, -8, -8}, nodes(splitBy(0, 0, 1, 1, 2), splitBy(0, 0, 0, 3, 4), leaf(-6), leaf(4), leaf(0)))
		isTrained(t, many(1, depth), l, []int{-8, -8, 0, 8}, nodes(splitBy(0, 0, 1, 1, 2), leaf(-6), splitBy(0, 0, 2, 3, 4), leaf(0), leaf(4)))
	}
	// Both sides are parted: the left one's children stand ahead of the right one's.
	isTrained(t, many(1, 2), l, []int{40, 10, -10, -40}, nodes(splitBy(0, 0, 1, 1, 2), splitBy(0, 0, 0, 3, 4), splitBy(0, 0, 2, 5, 6), leaf(20), leaf(5), leaf(-5), leaf(-20)))
}

// chain are labels of which each split leaves one row alone, so that a tree is as deep as it may be.
func chain(rows int) ([]api.Table, []int) {
	labels := make([]int, rows)
	for i := range labels {
		labels[i] = 1 << 20 >> (3 * i)
	}
	return tables(table(32, rising(rows))), labels
}

// P18.1, P18.4: no tree is deeper than Depth, and one that can be as deep is.
func TestDepth(t *testing.T) {
	l, labels := chain(7)
	for depth := 1; depth <= 5; depth++ {
		m := checkTrain(t, many(2, depth), l, labels)
		if len(m.Trees) != 2 || depthOf(m.Trees[0].Nodes, 0) != depth || len(m.Trees[0].Nodes) != 2*depth+1 {
			t.Error("Depth", depth, "of a chain:", m)
		}
		m = checkTrain(t, many(1, depth), wholeTree(), wholeLabels())
		if len(m.Trees) != 1 || depthOf(m.Trees[0].Nodes, 0) != depth || len(m.Trees[0].Nodes) != 2<<depth-1 {
			t.Error("Depth", depth, "of a whole tree:", m)
		}
	}
}

// wholeTree and wholeLabels are 256 rows that five features part, each by half, of which a later one tells more: a tree of 63 nodes, which is all there may be.
func wholeTree() []api.Table {
	var columns [][]int
	for bit := range 5 {
		column := make([]int, 256)
		for row := range column {
			column[row] = row >> (bit + 3) & 1
		}
		columns = append(columns, column)
	}
	return tables(table(2, columns[:2]...), table(2, columns[2:]...))
}

func wholeLabels() []int {
	labels := make([]int, 256)
	for row := range labels {
		for bit := range 5 {
			labels[row] += (row>>(bit+3)&1*2 - 1) * (100000 + 500*bit)
		}
	}
	return labels
}

// P18.1: the whole tree's nodes: each level's feature is the same, and its leaves stand at the places 31 to 62.
func TestWholeTree(t *testing.T) {
	m := checkTrain(t, many(1, 5), wholeTree(), wholeLabels())
	if len(m.Trees) != 1 || len(m.Trees[0].Nodes) != 63 {
		t.Fatal(m)
	}
	for place, n := range m.Trees[0].Nodes {
		if place >= 31 {
			if !n.Leaf {
				t.Error("place", place, n)
			}
			continue
		}
		level := 0
		for place+1 >= 2<<level {
			level++
		}
		party, feature := 1, 2-level
		if level > 2 {
			party, feature = 0, 4-level
		}
		if n != splitBy(party, feature, 0, 2*place+1, 2*place+2) {
			t.Error("place", place, n)
		}
	}
}

// someTables are so many of some rows, with few features or many, of few bins or many.
func someTables(r *rand.Rand, parties, rows, mostFeatures int) []api.Table {
	l := make([]api.Table, parties)
	ids := r.Perm(rows + r.IntN(5))[:rows]
	for i := range l {
		l[i].Ids = slices.Clone(ids)
		for range r.IntN(mostFeatures + 1) {
			bins := []int{2, 3, 2 + r.IntN(31), 32}[r.IntN(4)]
			most := 1 + r.IntN(bins)
			column := make([]int, rows)
			for row := range column {
				column[row] = r.IntN(most)
			}
			l[i].Bins = append(l[i].Bins, bins)
			l[i].Cols = append(l[i].Cols, column)
		}
	}
	return l
}

// someLabels are so many: of few numbers, small, or of all.
func someLabels(r *rand.Rand, rows int) []int {
	most := []int{1, 3, 20, 1000, 1 << 20}[r.IntN(5)]
	labels := make([]int, rows)
	for i := range labels {
		labels[i] = r.IntN(2*most+1) - most
	}
	return labels
}

// someConfig is one that may be, more often one that makes many splits.
func someConfig(r *rand.Rand, mostTrees int) api.Config {
	few := func(least, most int) int {
		switch r.IntN(8) {
		case 0:
			return most
		case 1:
			return least + r.IntN(most-least+1)
		}
		return min(most, least+r.IntN(4))
	}
	c := api.Config{Trees: 1 + r.IntN(mostTrees), Depth: 1 + r.IntN(5), Lambda: few(1, 1<<20), Gamma: few(0, 1<<20), Den: few(1, 1<<20)}
	c.Num = few(1, c.Den)
	if r.IntN(2) == 0 {
		c = clipped(c, few(1, 1<<20))
	}
	return c
}

// P18.1: of many configurations, tables and labels, against another reckoning.
func TestTrainOfMany(t *testing.T) {
	r := seeded(1)
	parted, deep := 0, 0
	for range 2000 {
		rows := 1 + r.IntN(16)
		m := checkTrain(t, someConfig(r, 4), someTables(r, 1+r.IntN(4), rows, 3), someLabels(r, rows))
		for _, tree := range m.Trees {
			if len(tree.Nodes) > 1 {
				parted++
			}
			if len(tree.Nodes) > 7 {
				deep++
			}
		}
	}
	if parted < 1000 || deep < 200 {
		t.Error("trees with splits, and with many:", parted, deep)
	}
	for _, rows := range []int{63, 64, 65, 128, 129, 255, 256} {
		checkTrain(t, someConfig(r, 3), someTables(r, 2, rows, 2), someLabels(r, rows))
		checkTrain(t, many(2, 5), tables(someTables(r, 2, rows, 3)...), someLabels(r, rows))
	}
}

// P18.1: every column of four rows and three bins, and every label of a few, against another reckoning.
func TestTrainOfSmall(t *testing.T) {
	for n := range 81 {
		column := []int{n % 3, n / 3 % 3, n / 9 % 3, n / 27}
		for k := range 81 {
			labels := []int{k%3*2 - 2, k/3%3*2 - 2, k/9%3*2 - 2, k/27*2 - 2}
			checkTrain(t, many(2, 2), tables(table(3, column)), labels)
		}
	}
}

// P18.1, P18.4: as many parties, features, bins, rows, trees as may be, as deep as may be, with the greatest numbers.
func TestTrainOfMost(t *testing.T) {
	r := seeded(2)
	var l []api.Table
	for range 16 {
		var columns [][]int
		for range 16 {
			column := make([]int, 256)
			for row := range column {
				column[row] = r.IntN(32)
			}
			columns = append(columns, column)
		}
		l = append(l, table(32, columns...))
	}
	labels := make([]int, 256)
	for row := range labels {
		labels[row] = 1<<20 - r.IntN(2)<<21
	}
	c := many(16, 5)
	m, err := Train(c, l, labels)
	if err != api.OK {
		t.Fatal("error", err)
	}
	checkTrained(t, c, m)
	checkScores(t, c, m, l, labels)
	checkTrain(t, many(1, 1), l, labels)
	none := slices.Repeat(tables(table(2, make([]int, 256))), 16)
	isTrained(t, c, none, slices.Repeat([]int{-1 << 20}, 256), alike(-1<<20, 256)...)
}

// checkScores asks of a model's leaves that each has the weight of the rows that come to it, tree by tree, and of Eval that it tells the rows' scores behind the last one. It takes the model's splits as they are.
func checkScores(t testing.TB, c api.Config, m api.Model, l []api.Table, labels []int) {
	t.Helper()
	scores := make([]int, len(labels))
	for i, tree := range m.Trees {
		g := make([]int, len(labels))
		come := map[int][]int{}
		for row, label := range labels {
			g[row] = wantGrad(c, scores[row], label)
			at := 0
			for n := tree.Nodes[0]; !n.Leaf; n = tree.Nodes[at] {
				at = n.Right
				if l[n.Party].Cols[n.Feature][row] <= n.Cut {
					at = n.Left
				}
			}
			come[at] = append(come[at], row)
		}
		for at, rows := range come {
			weight := wantWeight(c, g, rows)
			if got := tree.Nodes[at].Weight; got != weight {
				t.Errorf("tree %d, node %d: weight %d, asked %d", i, at, got, weight)
			}
			for _, row := range rows {
				scores[row] += weight
			}
		}
	}
	for row, score := range scores {
		isScore(t, m, rowOf(l, row), score)
	}
}

// alike are the 16 trees of so many rows that no split parts, all of one label.
func alike(label, rows int) [][]api.Node {
	var trees [][]api.Node
	score := 0
	for range 16 {
		above, below := (label-score)*rows, rows+1
		weight := above / below
		if weight*below > above {
			weight--
		}
		score += weight
		trees = append(trees, nodes(leaf(weight)))
	}
	return trees
}

// Nodes come off by their places, in whatever order they were put.
func TestQueue(t *testing.T) {
	r := seeded(3)
	for range 200 {
		var q queue
		places := r.Perm(1 + r.IntN(63))
		for _, place := range places {
			heap.Push(&q, node{place: place, depth: place % 5})
		}
		for want := range len(places) {
			if got := heap.Pop(&q).(node); got.place != want || got.depth != want%5 {
				t.Fatal("came off:", got, "asked", want)
			}
		}
		if q.Len() != 0 {
			t.Fatal("left:", q)
		}
	}
}
