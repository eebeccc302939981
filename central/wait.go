package central

import "windbreak/api"

// node is one that is not looked at yet: its place, how deep it is, and the rows for which it stands.
type node struct {
	place, depth int
	rows         api.Bits
}

// queue is a heap (container/heap) of nodes that wait, the one of the least place first.
type queue []node

func (q queue) Len() int           { return len(q) }
func (q queue) Less(i, j int) bool { return q[i].place < q[j].place }
func (q queue) Swap(i, j int)      { q[i], q[j] = q[j], q[i] }

// Push and Pop are the heap's alone, which puts in order what they add and take at the end.
func (q *queue) Push(x any) { *q = append(*q, x.(node)) }

func (q *queue) Pop() any {
	last := len(*q) - 1
	n := (*q)[last]
	*q = (*q)[:last]
	return n
}
