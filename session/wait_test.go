package session

import (
	"math"
	"slices"
	"testing"

	"windbreak/api"
)

// P13.2: kinds are 1 to 11, one at least; with one that is none, wherever it stands, nobody is waited for.
func TestAwaitKinds(t *testing.T) {
	for kind := 1; kind <= 11; kind++ {
		waitsFor(t, "a kind", all(t, of(t, 0, 3, 5), await(2, kind)), 2)
		waitsFor(t, "a kind twice", all(t, of(t, 1, 3, 5), await(0, kind, kind)), 0)
	}
	waitsFor(t, "all kinds", all(t, of(t, 0, 3, 5), await(1, 1, 2, 3, 4, 5, 6, 7, 8, 9, 10, 11)), 1)
	waitsFor(t, "falling ones", all(t, of(t, 0, 3, 5), await(1, 11, 3, 1)), 1)
	wrong := [][]int{nil, {}, make([]int, 0, 4)}
	for _, kind := range []int{0, 12, 13, 64, 255, 257, 1 << 16, 1<<32 + 1, math.MaxInt, -1, -11, math.MinInt} {
		wrong = append(wrong, []int{kind}, []int{kind, 1}, []int{1, kind}, []int{1, 11, kind}, []int{kind, kind}, []int{2, kind, 3})
	}
	s := of(t, 0, 3, 5)
	for _, kinds := range wrong {
		changesNothing(t, "Await of wrong kinds", s, func() api.Errno { return s.Await(1, kinds) }, api.ErrArg)
		changesNothing(t, "Await of wrong kinds, no peer", s, func() api.Errno { return s.Await(0, kinds) }, api.ErrArg)
	}
	waitsFor(t, "wrong kinds", s)
	all(t, s, await(1, 2), take(1, 2, 0))
}

// P13.2: whom it waits for it can't wait for again: ErrOrder, with the same kinds and with others; the first ones stay, and the time from which on.
func TestAwaitTwice(t *testing.T) {
	s := all(t, of(t, 0, 3, 5), await(1, 2, 3), tick(4))
	for _, kinds := range [][]int{{2, 3}, {2}, {4}, {11}} {
		changesNothing(t, "Await again", s, func() api.Errno { return s.Await(1, kinds) }, api.ErrOrder)
	}
	waitsFor(t, "Await again", s, 1)
	all(t, s, await(2, 4), take(1, 3, 0))
	s = all(t, of(t, 0, 3, 5), await(1, 2), tick(5))
	answers(t, "Await again", s.Await(1, []int{2}), api.ErrOrder)
	answers(t, "the first time holds", s.Tick(1), api.ErrTimeout)
	s = all(t, of(t, 0, 3, 5), await(1, 2))
	answers(t, "Await of another kind", s.Await(1, []int{4}), api.ErrOrder)
	answers(t, "the first kind holds", s.Take(1, api.Msg{Kind: 4}), api.ErrOrder)
}

// P13.2 and R1: of wrong kinds, and of no peer, ErrArg is told, which is named first, also where that peer is waited for.
func TestAwaitErrors(t *testing.T) {
	s := all(t, of(t, 0, 3, 5), await(1, 2))
	for _, kinds := range [][]int{nil, {0}, {12}, {2, 12}} {
		changesNothing(t, "wrong kinds of one that is waited for", s, func() api.Errno { return s.Await(1, kinds) }, api.ErrArg)
	}
	changesNothing(t, "no peer", s, func() api.Errno { return s.Await(3, []int{2}) }, api.ErrArg)
}

// P13.2: when its message was taken, a peer may be waited for again: from then on, for other kinds.
func TestAwaitAgain(t *testing.T) {
	s := all(t, of(t, 0, 3, 5), await(1, 2), tick(5), take(1, 2, 0), tick(7), await(1, 3), tick(5))
	waitsFor(t, "again", s, 1)
	all(t, s, take(1, 3, 0), await(1, 4))
	answers(t, "an old kind", s.Take(1, api.Msg{Kind: 3}), api.ErrOrder)
	s = all(t, of(t, 2, 3, 5), await(0, 2), tick(3), take(0, 2, 0), await(0, 2), tick(5))
	answers(t, "too late", s.Tick(1), api.ErrTimeout)
}

// P13.3: a message of one of the kinds is taken, whichever it is, and its peer is waited for no more; any other kind aborts by ErrOrder.
func TestTakeKinds(t *testing.T) {
	for self := range 2 {
		peer := 1 - self
		for set := 1; set < 1<<11; set++ {
			var kinds []int
			for kind := 1; kind <= 11; kind++ {
				if set>>(kind-1)&1 > 0 {
					kinds = append(kinds, kind)
				}
			}
			for kind := -1; kind <= 13; kind++ {
				s := all(t, of(t, self, 2, 5), await(peer, kinds...))
				err := s.Take(peer, api.Msg{Kind: kind, A: 77})
				switch {
				case kind == 11:
					answers(t, "MsgAbort", err, api.OK)
					isOver(t, "MsgAbort", s, api.Aborted, 77)
				case slices.Contains(kinds, kind):
					answers(t, "a kind", err, api.OK)
					waitsFor(t, "a kind", s)
				default:
					answers(t, "another kind", err, api.ErrOrder)
					isOver(t, "another kind", s, api.Aborted, api.ErrOrder)
				}
			}
		}
	}
}

// P13.3: kinds that are none, of any size, are not waited for.
func TestTakeOfNoKind(t *testing.T) {
	for _, kind := range []int{math.MinInt, -1 << 32, -64, -11, -1, 0, 12, 13, 16, 18, 66, 1 << 16, 1<<32 + 2, math.MaxInt} {
		s := all(t, of(t, 0, 3, 5), await(1, 1, 2, 3, 4, 5, 6, 7, 8, 9, 10, 11), await(2, 2))
		answers(t, "no kind", s.Take(1, api.Msg{Kind: kind}), api.ErrOrder)
		isOver(t, "no kind", s, api.Aborted, api.ErrOrder)
	}
}

// P13.3: a message of a peer that is not waited for aborts by ErrOrder, whomever else it waits for, and be it a kind of theirs.
func TestTakeOfNotAwaited(t *testing.T) {
	for kind := 0; kind <= 12; kind++ {
		if kind == 11 {
			continue
		}
		for _, s := range []*Session{
			of(t, 0, 3, 5),
			all(t, of(t, 0, 3, 5), await(2, 1, 2, 3, 4, 5, 6, 7, 8, 9, 10, 11)),
			all(t, of(t, 0, 3, 5), await(1, 2), take(1, 2, 0)),
		} {
			answers(t, "not awaited", s.Take(1, api.Msg{Kind: kind}), api.ErrOrder)
			isOver(t, "not awaited", s, api.Aborted, api.ErrOrder)
		}
		s := of(t, 2, 3, 5)
		answers(t, "of the party 0, not awaited", s.Take(0, api.Msg{Kind: kind}), api.ErrOrder)
		isOver(t, "of the party 0, not awaited", s, api.Aborted, api.ErrOrder)
	}
}

// P13.3: a message is taken once.
func TestTakeTwice(t *testing.T) {
	s := all(t, of(t, 0, 3, 5), await(1, 2, 3), await(2, 2, 3), take(1, 2, 0))
	waitsFor(t, "taken", s, 2)
	answers(t, "another kind behind it", s.Take(1, api.Msg{Kind: 3}), api.ErrOrder)
	isOver(t, "another kind behind it", s, api.Aborted, api.ErrOrder)
}

// P13.3: MsgAbort aborts by its A, or by ErrOrder, if that is not 1 to 1000; be its peer waited for, be that among the kinds, or not. That is OK.
func TestTakeOfAbort(t *testing.T) {
	for a, why := range map[int]api.Errno{
		1: 1, 2: 2, 17: 17, 18: 18, 19: 19, 20: 20, 21: 21, 22: 22, 500: 500, 999: 999, 1000: 1000,
		0: 18, 1001: 18, 1002: 18, 1 << 30: 18, 1<<32 + 1: 18, 1<<32 + 1000: 18, math.MaxInt: 18, -1: 18, -1000: 18, -1<<32 + 1: 18, math.MinInt: 18,
	} {
		for _, s := range []*Session{
			of(t, 0, 3, 5),
			all(t, of(t, 0, 3, 5), await(2, 2)),
			all(t, of(t, 0, 3, 5), await(1, 2)),
			all(t, of(t, 0, 3, 5), await(1, 11)),
			all(t, of(t, 0, 3, 5), await(1, 2, 11), await(2, 11), tick(5)),
		} {
			answers(t, "MsgAbort", s.Take(1, api.Msg{Kind: 11, A: a}), api.OK)
			isOver(t, "MsgAbort", s, api.Aborted, why)
		}
		s := of(t, 2, 3, 5)
		answers(t, "MsgAbort of the party 0", s.Take(0, api.Msg{Kind: 11, A: a}), api.OK)
		isOver(t, "MsgAbort of the party 0", s, api.Aborted, why)
	}
}

// P13.3: of no peer ErrArg is told, whatever the message is and whomever it waits for; then nothing has changed.
func TestTakeOfNoPeer(t *testing.T) {
	s := all(t, of(t, 0, 3, 5), await(1, 2), await(2, 2), tick(5))
	x := all(t, of(t, 1, 3, 5), await(0, 2), tick(5))
	for kind := -1; kind <= 13; kind++ {
		for _, peer := range []int{math.MinInt, -1, 0, 3, 4, 16, 1 << 32, 1<<32 + 1, math.MaxInt} {
			changesNothing(t, "Take of no peer", s, func() api.Errno { return s.Take(peer, api.Msg{Kind: kind, A: 5}) }, api.ErrArg)
		}
		for _, peer := range []int{math.MinInt, -1, 1, 2, 3, 16, 1 << 32, math.MaxInt} {
			changesNothing(t, "Take of no peer of the party 1", x, func() api.Errno { return x.Take(peer, api.Msg{Kind: kind, A: 5}) }, api.ErrArg)
		}
	}
	waitsFor(t, "no peer", s, 1, 2)
	waitsFor(t, "no peer of the party 1", x, 0)
}

// P13.3: whether a message may be is not looked at.
func TestTakeOfWrongMessage(t *testing.T) {
	m := api.Msg{A: -5, B: math.MaxInt, C: math.MinInt, Ids: []int{-1}, Rows: []int{3, 3, 1}, Nats: []api.Nat{{0}, nil, make(api.Nat, 99)}}
	for kind := 1; kind <= 10; kind++ {
		m.Kind = kind
		s := all(t, of(t, 0, 2, 5), await(1, kind))
		answers(t, "a message that may not be", s.Take(1, m), api.OK)
		waitsFor(t, "a message that may not be", s)
	}
	m.Kind, m.A = 11, 9
	s := of(t, 0, 2, 5)
	answers(t, "a MsgAbort that may not be", s.Take(1, m), api.OK)
	isOver(t, "a MsgAbort that may not be", s, api.Aborted, 9)
}
