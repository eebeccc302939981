package central

import (
	"fmt"
	"hash/crc32"
	"math"
	"math/big"
	"math/rand/v2"
	"slices"
	"testing"

	"windbreak/api"
)

// seeded is a source that is the same for the same seed.
func seeded(seed uint64) *rand.Rand { return rand.New(rand.NewPCG(seed, 18)) }

// far are numbers far out of each range.
func far() []int {
	return []int{math.MinInt, math.MinInt + 1, -1 << 62, -1 << 42, -1<<40 - 2, 1<<40 + 2, 1 << 42, 1<<42 + 1, 1 << 62, math.MaxInt - 1, math.MaxInt}
}

// rising are the numbers below n.
func rising(n int) []int {
	l := make([]int, n)
	for i := range l {
		l[i] = i
	}
	return l
}

// one is a configuration of one tree of Depth 1, whose weights are by 1 and 1 more than the rows.
func one() api.Config { return api.Config{Trees: 1, Depth: 1, Lambda: 1, Num: 1, Den: 1} }

// many is one of more trees, and deeper ones.
func many(trees, depth int) api.Config {
	c := one()
	c.Trees, c.Depth = trees, depth
	return c
}

// above is one with a Lambda and a Gamma.
func above(lambda, gamma int) api.Config {
	c := one()
	c.Lambda, c.Gamma = lambda, gamma
	return c
}

// clipped is one of Loss 1.
func clipped(c api.Config, most int) api.Config {
	c.Loss, c.Clip = 1, most
	return c
}

// table is one of the ids from 0 on, with columns of as many bins each.
func table(bins int, columns ...[]int) api.Table {
	t := api.Table{Cols: columns}
	for _, column := range columns {
		t.Ids = rising(len(column))
		t.Bins = append(t.Bins, bins)
	}
	return t
}

// bare is a table of so many rows and no columns.
func bare(rows int) api.Table { return api.Table{Ids: rising(rows)} }

func tables(l ...api.Table) []api.Table { return l }

// example is the chapter's.
func example() (api.Config, []api.Table, []int) {
	return one(), tables(table(2, []int{0, 0, 1, 1})), []int{10, 10, -10, -10}
}

// leaf and splitBy are nodes; nodes are some in their order, model is trees of such.
func leaf(weight int) api.Node { return api.Node{Leaf: true, Weight: weight} }

func splitBy(party, feature, cut, left, right int) api.Node {
	return api.Node{Party: party, Feature: feature, Cut: cut, Left: left, Right: right}
}

func model(trees ...[]api.Node) api.Model {
	var m api.Model
	for _, nodes := range trees {
		m.Trees = append(m.Trees, api.Tree{Nodes: nodes})
	}
	return m
}

func nodes(l ...api.Node) []api.Node { return l }

func isSame(a, b api.Model) bool {
	return slices.EqualFunc(a.Trees, b.Trees, func(x, y api.Tree) bool { return slices.Equal(x.Nodes, y.Nodes) })
}

func isNothing(m api.Model) bool { return len(m.Trees) == 0 }

// rowOf is a row as Eval asks for it: of each table its bins.
func rowOf(l []api.Table, place int) [][]int {
	var row [][]int
	for _, t := range l {
		var bins []int
		for _, column := range t.Cols {
			bins = append(bins, column[place])
		}
		row = append(row, bins)
	}
	return row
}

// mayConfig, mayTable and mayModel are whether something may be, by the document's words.
func mayConfig(c api.Config) bool {
	if c.Trees < 1 || c.Trees > 16 || c.Depth < 1 || c.Depth > 5 || c.Lambda < 1 || c.Lambda > 1048576 || c.Gamma < 0 || c.Gamma > 1048576 {
		return false
	}
	if c.Den < 1 || c.Den > 1048576 || c.Num < 1 || c.Num > c.Den {
		return false
	}
	return c.Loss == 0 && c.Clip == 0 || c.Loss == 1 && c.Clip >= 1 && c.Clip <= 1048576
}

func mayTable(t api.Table) bool {
	if len(t.Ids) > 256 || len(t.Cols) > 16 || len(t.Bins) != len(t.Cols) {
		return false
	}
	for i, id := range t.Ids {
		if id < 0 || id > 1<<30 || slices.Contains(t.Ids[:i], id) {
			return false
		}
	}
	for i, column := range t.Cols {
		if t.Bins[i] < 2 || t.Bins[i] > 32 || len(column) != len(t.Ids) {
			return false
		}
		for _, bin := range column {
			if bin < 0 || bin >= t.Bins[i] {
				return false
			}
		}
	}
	return true
}

func mayModel(m api.Model) bool {
	if len(m.Trees) > 16 {
		return false
	}
	for _, t := range m.Trees {
		if len(t.Nodes) < 1 || len(t.Nodes) > 63 {
			return false
		}
		for i, n := range t.Nodes {
			if !mayNode(n, i, len(t.Nodes)) {
				return false
			}
		}
	}
	return true
}

// mayNode is whether the i-th of n nodes may be.
func mayNode(x api.Node, i, n int) bool {
	if x.Leaf {
		return x.Weight >= -1099511627776 && x.Weight <= 1099511627776 && x.Party == 0 && x.Feature == 0 && x.Cut == 0 && x.Left == 0 && x.Right == 0
	}
	if x.Weight != 0 || x.Party < 0 || x.Party > 15 || x.Feature < 0 || x.Feature > 1073741824 || x.Cut < 0 || x.Cut > 31 {
		return false
	}
	return x.Left > i && x.Left < n && x.Right > i && x.Right < n && x.Left != x.Right
}

// wantErr is the error of P18.1, or OK.
func wantErr(c api.Config, l []api.Table, labels []int) api.Errno {
	if !mayConfig(c) || len(l) < 1 || len(l) > 16 {
		return api.ErrArg
	}
	for _, t := range l {
		if !mayTable(t) || !slices.Equal(t.Ids, l[0].Ids) || len(t.Ids) == 0 {
			return api.ErrTable
		}
	}
	if len(labels) != len(l[0].Ids) {
		return api.ErrArg
	}
	for _, label := range labels {
		if label < -1048576 || label > 1048576 {
			return api.ErrArg
		}
	}
	return api.OK
}

// wantTrain is what P18.1 asks for, by another reckoning; and each row's score behind the last tree.
func wantTrain(c api.Config, l []api.Table, labels []int) (api.Model, []int, api.Errno) {
	if err := wantErr(c, l, labels); err != api.OK {
		return api.Model{}, nil, err
	}
	scores := make([]int, len(labels))
	var trees [][]api.Node
	for range c.Trees {
		g := make([]int, len(labels))
		for row := range g {
			g[row] = wantGrad(c, scores[row], labels[row])
		}
		trees = append(trees, wantTree(c, l, g, scores))
	}
	return model(trees...), scores, api.OK
}

func wantGrad(c api.Config, score, label int) int {
	m := 1048576
	if c.Loss == 1 {
		m = c.Clip
	}
	return max(min(score-label, m), -m)
}

// stand is what a node stands for.
type stand struct {
	rows  []int
	depth int
}

// wantTree is a tree of numbers, each row's leaf's weight being added to its score: a walk over the rows that nodes stand for, which grow while it goes on.
func wantTree(c api.Config, l []api.Table, g, scores []int) []api.Node {
	all := []stand{{rows: rising(len(g))}}
	var tree []api.Node
	for place := 0; place < len(all); place++ {
		at := all[place]
		n, ok := api.Node{}, false
		if at.depth < c.Depth {
			n, ok = wantSplit(c, l, g, at.rows)
		}
		if !ok {
			n = leaf(wantWeight(c, g, at.rows))
			for _, row := range at.rows {
				scores[row] += n.Weight
			}
		} else {
			n.Left, n.Right = len(all), len(all)+1
			left, right := wantSides(l, n, at.rows)
			all = append(all, stand{left, at.depth + 1}, stand{right, at.depth + 1})
		}
		tree = append(tree, n)
	}
	return tree
}

// wantSides are the rows to the left of a split, and the others.
func wantSides(l []api.Table, n api.Node, rows []int) (left, right []int) {
	for _, row := range rows {
		if l[n.Party].Cols[n.Feature][row] <= n.Cut {
			left = append(left, row)
		} else {
			right = append(right, row)
		}
	}
	return left, right
}

// wantSplit is the first of the splits that gain most, if one gains more than Gamma and parts the rows.
func wantSplit(c api.Config, l []api.Table, g, rows []int) (api.Node, bool) {
	most, found := big.NewRat(int64(c.Gamma), 1), false
	var best api.Node
	for party, t := range l {
		for feature := range t.Cols {
			for cut := 0; cut < t.Bins[feature]-1; cut++ {
				n := splitBy(party, feature, cut, 0, 0)
				left, right := wantSides(l, n, rows)
				if len(left) == 0 || len(right) == 0 {
					continue
				}
				worth := new(big.Rat).Add(wantScore(c, g, left), wantScore(c, g, right))
				worth.Sub(worth, wantScore(c, g, rows))
				if worth.Cmp(most) > 0 {
					most, best, found = worth, n, true
				}
			}
		}
	}
	return best, found
}

func sumsOf(g, rows []int) int64 {
	sum := int64(0)
	for _, row := range rows {
		sum += int64(g[row])
	}
	return sum
}

func wantScore(c api.Config, g, rows []int) *big.Rat {
	sum := sumsOf(g, rows)
	return big.NewRat(sum*sum, int64(len(rows)+c.Lambda))
}

// wantWeight is a quotient that is rounded down, as its divisor is above 0.
func wantWeight(c api.Config, g, rows []int) int {
	above := big.NewInt(-sumsOf(g, rows) * int64(c.Num))
	below := big.NewInt(int64(len(rows)+c.Lambda) * int64(c.Den))
	return int(new(big.Int).Div(above, below).Int64())
}

// checkTrain asks Train against that, and of what it tells what P18.4 says.
func checkTrain(t testing.TB, c api.Config, l []api.Table, labels []int) api.Model {
	t.Helper()
	got, err := Train(c, l, labels)
	want, scores, fails := wantTrain(c, l, labels)
	if err != fails || !isSame(got, want) {
		t.Errorf("Train(%+v, %s, %v): %+v, error %d; asked %+v, error %d", c, brief(l), labels, got, err, want, fails)
		return api.Model{}
	}
	if err == api.OK {
		checkTrained(t, c, got)
		for row, score := range scores {
			isScore(t, got, rowOf(l, row), score)
		}
	}
	return got
}

// checkTrained asks of a model that was trained that it may be, and has as many trees as asked for, none deeper than Depth.
func checkTrained(t testing.TB, c api.Config, m api.Model) {
	t.Helper()
	if !Right(m) || !mayModel(m) || len(m.Trees) != c.Trees {
		t.Errorf("trained by %+v: %+v, right %v", c, m, Right(m))
		return
	}
	for _, tree := range m.Trees {
		if deep := depthOf(tree.Nodes, 0); deep > c.Depth {
			t.Errorf("trained by %+v: a tree %d deep: %+v", c, deep, tree)
		}
	}
}

// depthOf is how deep the tree below a node is.
func depthOf(l []api.Node, at int) int {
	if l[at].Leaf {
		return 0
	}
	return 1 + max(depthOf(l, l[at].Left), depthOf(l, l[at].Right))
}

// isTrained asks of Train that it tells just these trees; isNotTrained that it is this error, and tells none.
func isTrained(t testing.TB, c api.Config, l []api.Table, labels []int, trees ...[]api.Node) {
	t.Helper()
	got, err := Train(c, l, labels)
	if err != api.OK || !isSame(got, model(trees...)) {
		t.Errorf("Train(%+v, %s, %v): %+v, error %d; asked %+v", c, brief(l), labels, got, err, trees)
	}
	checkTrain(t, c, l, labels)
}

func isNotTrained(t testing.TB, c api.Config, l []api.Table, labels []int, want api.Errno) {
	t.Helper()
	if got, err := Train(c, l, labels); err != want || !isNothing(got) {
		t.Errorf("Train(%+v, %s, %v): %+v, error %d; asked error %d", c, brief(l), labels, got, err, want)
	}
	if fails := wantErr(c, l, labels); fails != want {
		t.Errorf("the other reckoning of Train(%+v, %s, %v): error %d; asked %d", c, brief(l), labels, fails, want)
	}
}

// checkRight asks Right of a model against the document's words.
func checkRight(t testing.TB, m api.Model) {
	t.Helper()
	if got, want := Right(m), mayModel(m); got != want {
		t.Errorf("Right(%+v): %v", m, got)
	}
}

// isRight and isWrong ask of a model that it may be, or may not, by the document's words too.
func isRight(t testing.TB, m api.Model) {
	t.Helper()
	if !Right(m) || !mayModel(m) {
		t.Errorf("may be: %+v", m)
	}
}

func isWrong(t testing.TB, m api.Model) {
	t.Helper()
	if Right(m) || mayModel(m) {
		t.Errorf("may not be: %+v", m)
	}
}

// wantEval is what P18.2 asks for, from node to node by a call that calls itself.
func wantEval(m api.Model, row [][]int) (int, api.Errno) {
	if !mayModel(m) {
		return 0, api.ErrArg
	}
	sum := 0
	for _, tree := range m.Trees {
		var come func(at int) bool
		come = func(at int) bool {
			n := tree.Nodes[at]
			if n.Leaf {
				sum += n.Weight
				return true
			}
			if len(row) <= n.Party || len(row[n.Party]) <= n.Feature {
				return false
			}
			if row[n.Party][n.Feature] > n.Cut {
				return come(n.Right)
			}
			return come(n.Left)
		}
		if !come(0) {
			return 0, api.ErrArg
		}
	}
	return sum, api.OK
}

// checkEval asks Eval against that.
func checkEval(t testing.TB, m api.Model, row [][]int) {
	t.Helper()
	got, err := Eval(m, row)
	if want, fails := wantEval(m, row); got != want || err != fails {
		t.Errorf("Eval(%+v, %v): %d, error %d; asked %d, error %d", m, row, got, err, want, fails)
	}
}

// isScore asks of Eval that it tells just this; isNoScore that it is ErrArg, and tells nothing.
func isScore(t testing.TB, m api.Model, row [][]int, want int) {
	t.Helper()
	if got, err := Eval(m, row); got != want || err != api.OK {
		t.Errorf("Eval(%+v, %v): %d, error %d; asked %d", m, row, got, err, want)
	}
}

func isNoScore(t testing.TB, m api.Model, row [][]int) {
	t.Helper()
	if got, err := Eval(m, row); got != 0 || err != api.ErrArg {
		t.Errorf("Eval(%+v, %v): %d, error %d; asked ErrArg", m, row, got, err)
	}
}

// digits are a number's code, by division; whole that of a whole number.
func digits(n *big.Int) []byte {
	base := big.NewInt(128)
	digit := new(big.Int)
	var b []byte
	for n = new(big.Int).Set(n); n.Cmp(base) >= 0; {
		n.QuoRem(n, base, digit)
		b = append(b, byte(digit.Int64()+128))
	}
	return append(b, byte(n.Int64()))
}

func whole(x int) []byte {
	n := big.NewInt(int64(x))
	n.Mul(n, big.NewInt(2))
	if n.Sign() < 0 {
		n.Neg(n)
		n.Sub(n, big.NewInt(1))
	}
	return digits(n)
}

// wantBytes are those of which P18.3 asks for the sum.
func wantBytes(m api.Model) []byte {
	count := func(n int) []byte { return digits(big.NewInt(int64(n))) }
	b := count(len(m.Trees))
	for _, tree := range m.Trees {
		b = append(b, count(len(tree.Nodes))...)
		for _, n := range tree.Nodes {
			if n.Leaf {
				b = append(b, 1)
			} else {
				b = append(b, 0)
			}
			b = slices.Concat(b, whole(n.Weight), whole(n.Party), whole(n.Feature), whole(n.Cut), whole(n.Left), whole(n.Right))
		}
	}
	return b
}

// checkSum asks Sum of a model against the library's sum of those bytes.
func checkSum(t testing.TB, m api.Model) {
	t.Helper()
	if got, want := Sum(m), int(crc32.ChecksumIEEE(wantBytes(m)))>>2; got != want {
		t.Errorf("Sum(%+v): %d; asked %d", m, got, want)
	}
}

// isSum asks of a model's bytes that they are these, and of its Sum that it is just this number.
func isSum(t testing.TB, m api.Model, want int, b ...byte) {
	t.Helper()
	if got := Sum(m); got != want || !slices.Equal(wantBytes(m), b) {
		t.Errorf("Sum(%+v): %d, of the bytes %v; asked %d of %v", m, got, wantBytes(m), want, b)
	}
}

// brief is what tables hold, or how many they are, if that is long.
func brief(l []api.Table) string {
	if text := fmt.Sprintf("%+v", l); len(text) < 1000 {
		return text
	}
	return fmt.Sprintf("%d tables", len(l))
}
