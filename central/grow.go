package central

import (
	"container/heap"

	"windbreak/api"
	"windbreak/bitset"
	"windbreak/loss"
)

// grower is a tree that is being grown: of what, and what there is of it.
type grower struct {
	c       api.Config
	splits  []split
	g       []int // each row's number
	nodes   []api.Node
	weights []int // of the leaf that stands for each row
	waiting queue
}

// grow is the tree of the rows' numbers, and of each row the weight of its leaf.
func grow(c api.Config, splits []split, g []int) (api.Tree, []int) {
	t := &grower{c: c, splits: splits, g: g, weights: make([]int, len(g))}
	all, _ := bitset.Full(len(g))
	t.put(all, 0)
	for t.waiting.Len() > 0 {
		t.look(heap.Pop(&t.waiting).(node))
	}
	return api.Tree{Nodes: t.nodes}, t.weights
}

// put is the place of a new node, behind all others, which waits there.
func (t *grower) put(rows api.Bits, depth int) int {
	place := len(t.nodes)
	t.nodes = append(t.nodes, api.Node{})
	heap.Push(&t.waiting, node{place, depth, rows})
	return place
}

// look makes of a node what it is to be.
func (t *grower) look(n node) {
	if n.depth < t.c.Depth {
		if s, ok := first(t.c, t.splits, t.g, n.rows); ok {
			t.part(n, s)
			return
		}
	}
	t.end(n)
}

// part makes a node a split, and puts its children.
func (t *grower) part(n node, s split) {
	left, _ := bitset.And(n.rows, s.left)
	others, _ := bitset.Minus(n.rows, s.left)
	// Put may move the nodes elsewhere, so the children stand ahead of what is written here.
	l := t.put(left, n.depth+1)
	r := t.put(others, n.depth+1)
	t.nodes[n.place] = api.Node{Party: s.party, Feature: s.feature, Cut: s.cut, Left: l, Right: r}
}

// end makes a node a leaf. Its sums are no greater than loss.Weight takes.
func (t *grower) end(n node) {
	weight, _ := loss.Weight(t.c, sumOf(t.g, n.rows))
	t.nodes[n.place] = api.Node{Leaf: true, Weight: weight}
	for _, row := range bitset.List(n.rows) {
		t.weights[row] = weight
	}
}
