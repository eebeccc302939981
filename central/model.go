package central

import (
	"windbreak/api"
	"windbreak/codec"
	"windbreak/frame"
)

// api's limits do not have these.
const (
	mostNodes  = 2<<api.MaxDepth - 1 // of a tree
	mostWeight = 1 << 40             // in size
)

// Right tells whether a model may be.
func Right(m api.Model) bool {
	if len(m.Trees) > api.MaxTrees {
		return false
	}
	for _, t := range m.Trees {
		if !isTree(t.Nodes) {
			return false
		}
	}
	return true
}

// isTree is whether nodes may be a tree's.
func isTree(nodes []api.Node) bool {
	if !isFrom(len(nodes), 1, mostNodes) {
		return false
	}
	for place, n := range nodes {
		if !isLeaf(n) && !isSplit(n, place, len(nodes)) {
			return false
		}
	}
	return true
}

// isLeaf is whether a node is a leaf, and may be: one that has nothing but its weight.
func isLeaf(n api.Node) bool {
	return n == api.Node{Leaf: true, Weight: n.Weight} && isFrom(n.Weight, -mostWeight, mostWeight)
}

// isSplit is whether a node at a place of so many is a split, and may be. As its children stand behind it, no walk from the root on comes round.
func isSplit(n api.Node, place, count int) bool {
	return !n.Leaf && n.Weight == 0 &&
		isFrom(n.Party, 0, api.MaxParties-1) &&
		isFrom(n.Feature, 0, api.MaxSeq) &&
		isFrom(n.Cut, 0, api.MaxBins-1) &&
		isFrom(n.Left, place+1, count-1) &&
		isFrom(n.Right, place+1, count-1) &&
		n.Left != n.Right
}

// Eval is a model's score of a row: of each party its bins.
func Eval(m api.Model, row [][]int) (int, api.Errno) {
	if !Right(m) {
		return 0, api.ErrArg
	}
	score := 0
	for _, t := range m.Trees {
		weight, ok := reach(t.Nodes, row)
		if !ok {
			return 0, api.ErrArg
		}
		score += weight
	}
	return score, api.OK
}

// reach is the weight of the leaf to which a row comes; false: it is asked for a number that it has not.
func reach(nodes []api.Node, row [][]int) (int, bool) {
	at := nodes[0]
	for !at.Leaf {
		if at.Party >= len(row) || at.Feature >= len(row[at.Party]) {
			return 0, false
		}
		if row[at.Party][at.Feature] <= at.Cut {
			at = nodes[at.Left]
		} else {
			at = nodes[at.Right]
		}
	}
	return at.Weight, true
}

// Sum is a model's check sum. It is asked of any model, so no part of one is taken to be such as may be.
func Sum(m api.Model) int {
	b := codec.Number(uint64(len(m.Trees)))
	for _, t := range m.Trees {
		b = append(b, codec.Number(uint64(len(t.Nodes)))...)
		for _, n := range t.Nodes {
			b = append(b, code(n)...)
		}
	}
	return int(frame.Sum(b) / 4)
}

// code is a node's bytes.
func code(n api.Node) []byte {
	leaf := uint64(0)
	if n.Leaf {
		leaf = 1
	}
	b := codec.Number(leaf)
	for _, part := range [...]int{n.Weight, n.Party, n.Feature, n.Cut, n.Left, n.Right} {
		b = append(b, codec.Int(int64(part))...)
	}
	return b
}
