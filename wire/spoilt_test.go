package wire

import (
	"math/rand/v2"
	"slices"

	"windbreak/api"
)

// spoilt is a message with up to two of its things changed, so that it may be right or not.
func spoilt(r *rand.Rand, m api.Msg) api.Msg {
	m = copied(m)
	for range r.IntN(3) {
		switch r.IntN(8) {
		case 0:
			m.Kind = r.IntN(14)
		case 1, 2:
			m = with(m, rune("ABC"[r.IntN(3)]), edge(r))
		case 3:
			m.Ids = spoiltList(r, m.Ids, edge(r))
		case 4, 5:
			m.Rows = spoiltList(r, m.Rows, edge(r))
		case 6:
			m.Nats = spoiltList(r, m.Nats, natsOf(r, 1)[0])
		case 7:
			m.Nats = spoiltList(r, m.Nats, slices.Repeat(api.Nat{r.Uint64N(2)}, r.IntN(6)))
		}
	}
	return m
}

// edge is a number that is right, or wrong.
func edge(r *rand.Rand) int {
	l := slices.Concat([]int{0, 0, 0, 1, 1, 2, 3, 4}, rights(), wrongs())
	return l[r.IntN(len(l))]
}

// spoiltList is a list with one thing more, one fewer, one changed, or two changed about.
func spoiltList[T any](r *rand.Rand, l []T, thing T) []T {
	if len(l) == 0 {
		return []T{thing}
	}
	at := r.IntN(len(l))
	switch r.IntN(4) {
	case 0:
		return slices.Insert(l, at, thing)
	case 1:
		return slices.Delete(l, at, at+1)
	case 2:
		l[at] = thing
	case 3:
		l[at], l[0] = l[0], l[at]
	}
	return l
}
