package session

import (
	"math"
	"slices"
	"testing"

	"windbreak/api"
)

// P13.1: of 2 to 16 parties, of each one of them, with a patience of 1 to 2^30, there is a session; of others there is none.
func TestNew(t *testing.T) {
	selves := []int{math.MinInt, -17, -2, -1, 0, 1, 2, 14, 15, 16, 17, 1 << 32, math.MaxInt}
	patiences := []int{math.MinInt, -1 << 30, -1, 0, 1, 2, 1<<30 - 1, 1 << 30, 1<<30 + 1, 1 << 32, 1<<32 + 1, math.MaxInt}
	for _, parties := range []int{math.MinInt, -2, -1, 0, 1, 2, 3, 15, 16, 17, 18, 1<<32 + 2, math.MaxInt} {
		for _, self := range append(selves, parties-1, parties, parties+1) {
			for _, patience := range patiences {
				may := parties >= 2 && parties <= 16 && self >= 0 && self < parties && patience >= 1 && patience <= 1073741824
				s, err := New(self, parties, patience)
				if may && (err != api.OK || s == nil) || !may && (err != api.ErrArg || s != nil) {
					t.Errorf("new %d %d %d: error %d, told %v", self, parties, patience, err, s)
				}
			}
		}
	}
}

// P13.1: a new session is working, waits for nobody, and has its patience from the time 0 on.
func TestNewWaitsForNobody(t *testing.T) {
	for parties := 2; parties <= 16; parties++ {
		for self := range parties {
			s := of(t, self, parties, 3)
			waitsFor(t, "new", s)
			all(t, s, tick(1<<30))
			waitsFor(t, "all its time", s)
			answers(t, "one more", s.Tick(1), api.ErrArg)
			all(t, of(t, self, parties, 3), finish())
		}
	}
}

// P13.1: of the party 0 all others are peers, of those the party 0 alone.
func TestPeers(t *testing.T) {
	for parties := 2; parties <= 16; parties++ {
		for self := range parties {
			for _, peer := range []int{math.MinInt, -16, -1, 0, 1, 2, 3, 8, 14, 15, 16, 17, 1 << 32, math.MaxInt, parties - 1, parties, parties + 1, self} {
				is := self == 0 && peer >= 1 && peer <= parties-1 || self > 0 && peer == 0
				s := of(t, self, parties, 3)
				if !is {
					changesNothing(t, "Await of no peer", s, func() api.Errno { return s.Await(peer, []int{2}) }, api.ErrArg)
					changesNothing(t, "Take of no peer", s, func() api.Errno { return s.Take(peer, api.Msg{Kind: 2}) }, api.ErrArg)
					changesNothing(t, "MsgAbort of no peer", s, func() api.Errno { return s.Take(peer, api.Msg{Kind: 11, A: 3}) }, api.ErrArg)
					waitsFor(t, "no peer", s)
					continue
				}
				all(t, s, await(peer, 2))
				waitsFor(t, "a peer", s, peer)
				all(t, s, take(peer, 2, 0))
				waitsFor(t, "a peer's message", s)
			}
		}
	}
}

// P13.1: Who rises, whatever the order was in which they were waited for, and which of them were taken.
func TestWhoRises(t *testing.T) {
	r := seeded(1)
	for range 300 {
		parties := 2 + r.IntN(15)
		s := of(t, 0, parties, 9)
		var want []int
		for _, i := range r.Perm(parties - 1) {
			all(t, s, await(i+1, 1+r.IntN(10), 10))
			want = append(want, i+1)
			slices.Sort(want)
			waitsFor(t, "one more", s, want...)
		}
		for _, i := range r.Perm(parties - 1) {
			all(t, s, take(i+1, 10, 0))
			want = slices.DeleteFunc(want, func(p int) bool { return p == i+1 })
			waitsFor(t, "one less", s, want...)
		}
	}
}

// P13.1: State and Who change nothing, as often as they are asked.
func TestAskingChangesNothing(t *testing.T) {
	s := all(t, of(t, 0, 5, 9), await(3, 2), await(1, 2, 3), tick(4))
	for range 3 {
		changesNothing(t, "asked", s, func() api.Errno { s.State(); s.Who(); return 0 }, 0)
		waitsFor(t, "asked", s, 1, 3)
	}
}

// ended are sessions that are over, by each way there is, and how.
func ended(t testing.TB) []struct {
	s     *Session
	phase int
	why   api.Errno
} {
	waiting := func() *Session { return all(t, of(t, 0, 4, 5), await(3, 2), await(1, 4, 5), tick(2)) }
	done := all(t, of(t, 0, 4, 5), await(1, 2), take(1, 2, 0), finish())
	other := all(t, of(t, 3, 4, 5), await(0, 1), take(0, 1, 0), finish())
	aborted := all(t, waiting(), abort(20))
	told := all(t, waiting(), take(2, 11, 7))
	toldNothing := all(t, waiting(), take(1, 11, 0))
	order := waiting()
	answers(t, "not awaited", order.Take(1, api.Msg{Kind: 2}), api.ErrOrder)
	late := waiting()
	answers(t, "late", late.Tick(4), api.ErrTimeout)
	return []struct {
		s     *Session
		phase int
		why   api.Errno
	}{
		{done, api.Done, 0}, {other, api.Done, 0}, {aborted, api.Aborted, 20}, {told, api.Aborted, 7},
		{toldNothing, api.Aborted, 18}, {order, api.Aborted, 18}, {late, api.Aborted, 19},
	}
}

// P13.1, P13.5 and R1: each call of a session that is over is ErrOver, which is named ahead of all other errors; and it changes nothing.
func TestOver(t *testing.T) {
	for _, e := range ended(t) {
		isOver(t, "over", e.s, e.phase, e.why)
		for range 2 {
			for _, c := range everyCall() {
				changesNothing(t, c.name, e.s, func() api.Errno { return c.call(e.s) }, api.ErrOver)
			}
		}
		isOver(t, "over, and asked", e.s, e.phase, e.why)
		if len(e.s.waits) > 0 {
			t.Error("over, and something is kept:", e.s.waits)
		}
	}
}

// The chapter's examples.
func TestExamples(t *testing.T) {
	s := of(t, 0, 3, 5)
	answers(t, "Await(1, Ready)", s.Await(1, []int{api.MsgReady}), api.OK)
	answers(t, "Take(1, Grads)", s.Take(1, api.Msg{Kind: api.MsgGrads}), api.ErrOrder)
	isOver(t, "Take(1, Grads)", s, api.Aborted, api.ErrOrder)
	s = of(t, 0, 3, 5)
	answers(t, "Await(2, Ready)", s.Await(2, []int{api.MsgReady}), api.OK)
	answers(t, "Tick(5)", s.Tick(5), api.OK)
	waitsFor(t, "Tick(5)", s, 2)
	answers(t, "Tick(1)", s.Tick(1), api.ErrTimeout)
	isOver(t, "Tick(1)", s, api.Aborted, api.ErrTimeout)
}
