package central

import (
	"fmt"
	"math"
	"math/rand/v2"
	"slices"
	"sync"
	"testing"

	"windbreak/api"
)

// roomy is a list with numbers behind its end, as a piece of a longer one has.
func roomy[T any](l []T, behind ...T) []T { return append(slices.Clone(l), behind...)[:len(l)] }

// roomyTables are tables, all of whose lists are roomy.
func roomyTables(l []api.Table) []api.Table {
	var all []api.Table
	for _, t := range l {
		to := api.Table{Ids: roomy(t.Ids, 71, 72), Bins: roomy(t.Bins, 73, 74)}
		for _, column := range t.Cols {
			to.Cols = append(to.Cols, roomy(column, 75, 76))
		}
		to.Cols = roomy(to.Cols, []int{77}, []int{78})
		all = append(all, to)
	}
	return roomy(all, api.Table{Ids: []int{79}})
}

// tablesText is all that tables hold, behind their lists' ends too.
func tablesText(l []api.Table) string {
	text := fmt.Sprint(len(l))
	for _, t := range l[:cap(l)] {
		text += fmt.Sprintln(t.Ids[:cap(t.Ids)], t.Bins[:cap(t.Bins)], len(t.Ids), len(t.Bins), len(t.Cols))
		for _, column := range t.Cols[:cap(t.Cols)] {
			text += fmt.Sprintln(len(column), column[:cap(column)])
		}
	}
	return text
}

// modelText is a model's, behind its lists' ends too.
func modelText(m api.Model) string {
	text := fmt.Sprint(len(m.Trees))
	for _, tree := range m.Trees[:cap(m.Trees)] {
		text += fmt.Sprintln(len(tree.Nodes), tree.Nodes[:cap(tree.Nodes)])
	}
	return text
}

// spoil overwrites all that a model could reach, behind its lists' ends too.
func spoil(m api.Model) {
	trees := m.Trees[:cap(m.Trees)]
	for i := range trees {
		l := trees[i].Nodes[:cap(trees[i].Nodes)]
		for j := range l {
			l[j] = api.Node{Leaf: true, Weight: 5, Party: 6}
		}
		trees[i].Nodes = nil
	}
}

// told is all that calls tell, one behind the other.
func told() string {
	r := seeded(7)
	var text string
	for range 40 {
		rows := 1 + r.IntN(12)
		l := someTables(r, 1+r.IntN(4), rows, 3)
		m, err := Train(someConfig(r, 4), l, someLabels(r, rows))
		score, none := Eval(m, rowOf(l, 0))
		other := anyModel(r)
		text += fmt.Sprintln(m, err, score, none, Right(m), Sum(m), Right(other), Sum(other))
	}
	return text
}

// R2: nil and empty are the same, of all lists.
func TestNilAndEmpty(t *testing.T) {
	c, _, _ := example()
	for _, l := range [][]api.Table{nil, {}} {
		for _, labels := range [][]int{nil, {}} {
			isNotTrained(t, c, l, labels, api.ErrArg)
		}
	}
	for _, ids := range [][]int{nil, {}} {
		for _, cols := range [][][]int{nil, {}} {
			for _, labels := range [][]int{nil, {}} {
				isNotTrained(t, c, tables(api.Table{Ids: ids, Bins: ids, Cols: cols}), labels, api.ErrTable)
			}
			for _, bins := range [][]int{nil, {}} {
				isTrained(t, c, tables(api.Table{Ids: []int{3}, Bins: bins, Cols: cols}), []int{9}, nodes(leaf(4)))
			}
		}
	}
	for _, trees := range [][]api.Tree{nil, {}} {
		m := api.Model{Trees: trees}
		isRight(t, m)
		isScore(t, m, nil, 0)
		checkSum(t, m)
	}
	for _, l := range [][]api.Node{nil, {}} {
		isWrong(t, model(l))
		isNoScore(t, model(l), nil)
		checkSum(t, model(l))
	}
	for _, row := range [][][]int{nil, {}, {nil}, {{}}} {
		isNoScore(t, three(splitBy(0, 0, 0, 1, 2)), row)
		isScore(t, model(nodes(leaf(2))), row, 2)
	}
}

// R3: tables and labels stay as they are, behind their ends too, with wrong ones among them too.
func TestTablesStay(t *testing.T) {
	r := seeded(8)
	wrong := wrongTables()
	for i := range 200 {
		rows := 1 + r.IntN(10)
		l := roomyTables(someTables(r, 1+r.IntN(4), rows, 3))
		if i%10 == 0 {
			l[0] = wrong[i/10%len(wrong)]
		}
		labels := roomy(someLabels(r, rows), 91, 92)
		if i%7 == 0 {
			labels[0] = 1<<20 + 1
		}
		before := tablesText(l) + fmt.Sprint(labels[:cap(labels)])
		m, _ := Train(many(1+r.IntN(3), 3), l, labels)
		spoil(m)
		if after := tablesText(l) + fmt.Sprint(labels[:cap(labels)]); after != before {
			t.Fatalf("changed: %s; before: %s", after, before)
		}
	}
}

// R3: models and rows stay as they are, behind their ends too.
func TestModelsStay(t *testing.T) {
	r := seeded(9)
	for range 500 {
		m := anyModel(r)
		for i := range m.Trees {
			m.Trees[i].Nodes = roomy(m.Trees[i].Nodes, leaf(9), leaf(9))
		}
		m.Trees = roomy(m.Trees, api.Tree{Nodes: nodes(leaf(8))})
		row := roomy([][]int{roomy([]int{1, 2}, 3, 4), roomy([]int{5}, 6), nil}, []int{7})
		text := func() string {
			s := modelText(m) + fmt.Sprint(len(row))
			for _, bins := range row[:cap(row)] {
				s += fmt.Sprintln(len(bins), bins[:cap(bins)])
			}
			return s
		}
		before := text()
		Right(m)
		Eval(m, row)
		Sum(m)
		if text() != before {
			t.Fatalf("changed: %s; before: %s", text(), before)
		}
	}
}

// R3: what is told is the caller's own: spoilt, it changes no other answer; and its trees share nothing.
func TestAnswersAreOwn(t *testing.T) {
	want := told()
	l, labels := wholeTree(), wholeLabels()
	for _, c := range []api.Config{one(), many(5, 1), many(4, 5), clipped(many(16, 3), 7)} {
		a, _ := Train(c, l, labels)
		b, _ := Train(c, l, labels)
		before := modelText(a)
		spoil(b)
		if modelText(a) != before {
			t.Error("another answer was changed:", a)
		}
		checkShares(t, a)
	}
	if told() != want {
		t.Error("other answers behind spoilt ones")
	}
}

// checkShares asks that no tree's nodes change with another one's, though they are added to.
func checkShares(t testing.TB, m api.Model) {
	t.Helper()
	for i := range m.Trees {
		before := make([]string, len(m.Trees))
		for j, tree := range m.Trees {
			before[j] = fmt.Sprint(tree.Nodes)
		}
		own := append(m.Trees[i].Nodes, leaf(5), leaf(6))
		for k := range own {
			own[k].Party += 100
		}
		for j, tree := range m.Trees {
			if j != i && fmt.Sprint(tree.Nodes) != before[j] {
				t.Error("tree", j, "changed with tree", i)
			}
		}
	}
}

// R4: the same is told whatever was asked ahead, and by many that ask at one time.
func TestNothingKept(t *testing.T) {
	want := told()
	_, l, labels := example()
	for _, c := range wrongConfigs() {
		Train(c, l, labels)
	}
	for _, wrong := range wrongTables() {
		Train(one(), tables(l[0], wrong), labels)
	}
	for _, m := range wrongModels() {
		Eval(m, [][]int{{1}})
		Sum(m)
	}
	if told() != want {
		t.Error("another answer behind other calls")
	}
	var wait sync.WaitGroup
	var all [8]string
	for i := range all {
		wait.Go(func() { all[i] = told() })
	}
	wait.Wait()
	for i := range all {
		if all[i] != want {
			t.Error("another answer at one time with others")
		}
	}
}

// anyNumber is small, about an edge, far out of range, or none of these.
func anyNumber(r *rand.Rand) int {
	edges := []int{math.MinInt, -1 << 40, -1 << 20, 0, 1, 16, 32, 63, 256, 1 << 20, 1 << 30, 1 << 40, math.MaxInt}
	switch r.IntN(6) {
	case 0:
		return edges[r.IntN(len(edges))] + r.IntN(3) - 1
	case 1:
		return far()[r.IntN(len(far()))]
	}
	return r.IntN(8) - 2
}

// someModel is one that may be: of few trees, of few nodes each, that ask for the first numbers of a few parties.
func someModel(r *rand.Rand) api.Model {
	var trees [][]api.Node
	for range r.IntN(5) {
		count := 1 + r.IntN(9)
		l := make([]api.Node, count)
		for place := range l {
			l[place] = leaf(r.IntN(1<<41+1) - 1<<40)
			if place+2 < count && r.IntN(4) > 0 {
				to := r.Perm(count - place - 1)
				l[place] = splitBy(r.IntN(4), r.IntN(3), r.IntN(32), place+1+to[0], place+1+to[1])
			}
		}
		trees = append(trees, l)
	}
	return model(trees...)
}

// anyModel is one that may be, or is spoilt at one place, or of any numbers.
func anyModel(r *rand.Rand) api.Model {
	m := someModel(r)
	for range r.IntN(3) {
		if len(m.Trees) == 0 {
			break
		}
		l := m.Trees[r.IntN(len(m.Trees))].Nodes
		n := &l[r.IntN(len(l))]
		switch r.IntN(8) {
		case 0:
			n.Leaf = !n.Leaf
		case 1:
			*n = api.Node{Leaf: n.Leaf, Weight: anyNumber(r), Party: anyNumber(r), Feature: anyNumber(r), Cut: anyNumber(r), Left: anyNumber(r), Right: anyNumber(r)}
		default:
			*[]*int{&n.Weight, &n.Party, &n.Feature, &n.Cut, &n.Left, &n.Right}[r.IntN(6)] = anyNumber(r)
		}
	}
	return m
}

// anyRow has some parties' numbers, or not.
func anyRow(r *rand.Rand) [][]int {
	row := make([][]int, r.IntN(6))
	for i := range row {
		for range r.IntN(5) {
			row[i] = append(row[i], []int{r.IntN(34) - 1, anyNumber(r)}[r.IntN(2)])
		}
	}
	return row
}

// P1: no call panics, whatever model and row it is given.
func TestAnyModels(t *testing.T) {
	r := seeded(10)
	told := [2]int{}
	for range 30000 {
		m, row := anyModel(r), anyRow(r)
		checkRight(t, m)
		checkEval(t, m, row)
		checkSum(t, m)
		if _, err := Eval(m, row); err == api.OK {
			told[1]++
		} else {
			told[0]++
		}
	}
	if told[0] < 3000 || told[1] < 3000 {
		t.Error("how many have no score, and how many one:", told)
	}
}

// P1: no call panics, whatever configuration, tables and labels it is given.
func TestAnyArguments(t *testing.T) {
	r := seeded(11)
	told := [2]int{}
	for range 5000 {
		rows := 1 + r.IntN(6)
		c, l, labels := someConfig(r, 3), someTables(r, 1+r.IntN(3), rows, 2), someLabels(r, rows)
		for range r.IntN(3) {
			spoilAny(r, &c, l, labels)
		}
		m := checkTrain(t, c, l, labels)
		told[min(1, len(m.Trees))]++
	}
	for range 2000 {
		c := api.Config{Trees: anyNumber(r), Depth: anyNumber(r), Lambda: anyNumber(r), Gamma: anyNumber(r), Num: anyNumber(r), Den: anyNumber(r), Loss: anyNumber(r), Clip: anyNumber(r)}
		checkTrain(t, c, someTables(r, r.IntN(18), 2, 1), someLabels(r, r.IntN(3)))
	}
	if told[0] < 1000 || told[1] < 1000 {
		t.Error("how many are not trained, and how many are:", told)
	}
}

// spoilAny changes one number of what Train is given.
func spoilAny(r *rand.Rand, c *api.Config, l []api.Table, labels []int) {
	table := &l[r.IntN(len(l))]
	n := anyNumber(r)
	switch r.IntN(6) {
	case 0:
		*[]*int{&c.Trees, &c.Depth, &c.Lambda, &c.Gamma, &c.Num, &c.Den, &c.Loss, &c.Clip}[r.IntN(8)] = n
	case 1:
		labels[r.IntN(len(labels))] = n
	case 2:
		table.Ids[r.IntN(len(table.Ids))] = n
	case 3:
		table.Ids = append(table.Ids, n)
	case 4:
		if len(table.Bins) > 0 {
			table.Bins[r.IntN(len(table.Bins))] = n
		}
	case 5:
		if len(table.Cols) > 0 && len(table.Cols[0]) > 0 {
			table.Cols[0][r.IntN(len(table.Cols[0]))] = n
		}
	}
}

// FuzzTrees looks for arguments at which a call panics, or tells another thing than another reckoning.
func FuzzTrees(f *testing.F) {
	f.Add(1, 1, 1, 0, 1, 1, 0, 0, []byte{0, 0, 1, 1}, 10, -10)
	f.Add(3, 5, 1, 16, 1, 2, 1, 9, []byte{0, 1, 2, 3, 4, 5, 6, 7, 8}, 40, -1)
	f.Add(2, 2, 1<<20, 1<<20, 1<<20, 1<<20, 1, 1<<20, []byte{31, 32, 0}, 1<<20, -1<<20)
	f.Add(0, -1, math.MinInt, math.MaxInt, 0, 1<<40, 2, 17, []byte{}, math.MinInt, math.MaxInt)
	f.Fuzz(func(t *testing.T, trees, depth, lambda, gamma, num, den, kind, clip int, bins []byte, a, b int) {
		c := api.Config{Trees: trees, Depth: depth, Lambda: lambda, Gamma: gamma, Num: num, Den: den, Loss: kind, Clip: clip}
		bins = bins[:min(len(bins), 40)]
		column, turned := make([]int, len(bins)), make([]int, len(bins))
		labels := make([]int, len(bins))
		for i, bin := range bins {
			column[i], turned[len(bins)-1-i] = int(bin)&31, int(bin)>>3
			labels[i] = []int{a, b, a / 2, b / 2}[i%4]
		}
		m := checkTrain(t, c, tables(table(32, column), table(32, turned, column)), labels)
		checkSum(t, m)
		odd := model(nodes(splitBy(trees, depth, lambda, gamma, num), api.Node{Leaf: den%2 == 0, Weight: kind, Left: clip}, leaf(a)))
		checkRight(t, odd)
		checkEval(t, odd, [][]int{column, turned, labels})
		checkSum(t, odd)
	})
}
