package session

import (
	"math"
	"testing"

	"windbreak/api"
)

// P13.4: n is 1 at least, and the time at most 2^30, which may just be reached; else nothing changes.
func TestTickNumbers(t *testing.T) {
	const all30 = 1 << 30
	wrong := func(s *Session, numbers ...int) {
		t.Helper()
		for _, n := range numbers {
			changesNothing(t, "Tick of a wrong number", s, func() api.Errno { return s.Tick(n) }, api.ErrArg)
		}
	}
	s := of(t, 0, 3, 5)
	wrong(s, 0, -1, -5, -1<<30, -1<<32+1, math.MinInt, all30+1, all30+2, 1<<31, 1<<32, 1<<32+1, math.MaxInt-1, math.MaxInt)
	all(t, s, tick(1), tick(2))
	wrong(s, 0, -1, -3, -4, all30, all30-1, all30-2, math.MaxInt-2, math.MaxInt)
	all(t, s, tick(all30-4))
	wrong(s, 0, 2, all30, math.MaxInt)
	all(t, s, tick(1))
	wrong(s, 0, 1, 2, -1, all30, math.MaxInt, math.MinInt)
	waitsFor(t, "at the last time", s)
	all(t, s, await(2, 2), take(2, 2, 0), finish())
}

// P13.4: just as long as its patience is no matter; 1 more aborts by ErrTimeout, in however many ticks that comes.
func TestPatience(t *testing.T) {
	for _, patience := range []int{1, 2, 3, 5, 1000, 1<<30 - 1} {
		for _, first := range []int{1, 2, patience / 2, patience - 1, patience} {
			if first < 1 || first > patience {
				continue
			}
			s := all(t, of(t, 0, 3, patience), await(1, 2), tick(first))
			if patience > first {
				all(t, s, tick(patience-first))
			}
			waitsFor(t, "its patience", s, 1)
			answers(t, "1 more", s.Tick(1), api.ErrTimeout)
			isOver(t, "1 more", s, api.Aborted, api.ErrTimeout)
			s = all(t, of(t, 2, 3, patience), await(0, 2), tick(first))
			answers(t, "1 more at once", s.Tick(patience-first+1), api.ErrTimeout)
			isOver(t, "1 more at once", s, api.Aborted, api.ErrTimeout)
		}
		s := all(t, of(t, 0, 3, patience), await(1, 2), tick(patience), take(1, 2, 0))
		waitsFor(t, "taken at the last moment", s)
		if patience < 1<<29 {
			all(t, s, tick(patience), tick(1<<29), await(2, 3), tick(patience), take(2, 3, 0), finish())
		}
	}
}

// P13.4: one peer of several is enough, whichever it is; from when on is each one's own.
func TestPatienceOfSeveral(t *testing.T) {
	for peers := 1; peers <= 15; peers++ {
		for slow := 1; slow <= peers; slow++ {
			s := of(t, 0, peers+1, 5)
			all(t, s, tick(9), await(slow, 2), tick(1))
			for peer := 1; peer <= peers; peer++ {
				if peer != slow {
					all(t, s, await(peer, 2))
				}
			}
			all(t, s, tick(4))
			answers(t, "one is late", s.Tick(1), api.ErrTimeout)
			isOver(t, "one is late", s, api.Aborted, api.ErrTimeout)
		}
	}
	s := all(t, of(t, 0, 4, 5), await(3, 2), tick(2), await(1, 2), tick(2), await(2, 2), tick(1), take(3, 2, 0), tick(2), take(1, 2, 0), tick(2))
	waitsFor(t, "the last one", s, 2)
	answers(t, "the last one is late", s.Tick(1), api.ErrTimeout)
}

// P13.4: the greatest patience is as long as all time; nothing is too late then.
func TestPatienceOfAllTime(t *testing.T) {
	s := all(t, of(t, 0, 3, 1<<30), await(1, 2), tick(1<<30))
	waitsFor(t, "all time", s, 1)
	changesNothing(t, "one more", s, func() api.Errno { return s.Tick(1) }, api.ErrArg)
	all(t, s, take(1, 2, 0), finish())
	s = all(t, of(t, 0, 3, 1<<30-1), await(1, 2))
	answers(t, "all time, with 1 less of patience", s.Tick(1<<30), api.ErrTimeout)
	isOver(t, "all time, with 1 less of patience", s, api.Aborted, api.ErrTimeout)
}

// P13.4 and R1: where the time would be above 2^30, ErrArg is told, which is named first, also where it would be too late.
func TestTickErrors(t *testing.T) {
	s := all(t, of(t, 0, 3, 5), tick(1<<30-9), await(1, 2))
	for _, n := range []int{10, 11, 1 << 30, math.MaxInt, 0, -1, math.MinInt} {
		changesNothing(t, "Tick", s, func() api.Errno { return s.Tick(n) }, api.ErrArg)
	}
	all(t, s, tick(5))
	changesNothing(t, "Tick", s, func() api.Errno { return s.Tick(5) }, api.ErrArg)
	answers(t, "the last time", s.Tick(4), api.ErrTimeout)
	isOver(t, "the last time", s, api.Aborted, api.ErrTimeout)
}

// P13.4: Finish is ErrOrder while somebody is waited for; else the session is done.
func TestFinish(t *testing.T) {
	isOver(t, "at once", all(t, of(t, 0, 3, 5), finish()), api.Done, api.OK)
	isOver(t, "at once, of the party 2", all(t, of(t, 2, 3, 5), tick(9), finish()), api.Done, api.OK)
	s := all(t, of(t, 0, 3, 5), await(1, 2), await(2, 2), tick(5))
	waits := func(who ...int) {
		t.Helper()
		changesNothing(t, "Finish", s, s.Finish, api.ErrOrder)
		waitsFor(t, "Finish", s, who...)
	}
	waits(1, 2)
	all(t, s, take(1, 2, 0))
	waits(2)
	all(t, s, take(2, 2, 0), finish())
	isOver(t, "done", s, api.Done, api.OK)
	s = all(t, of(t, 1, 3, 5), await(0, 1))
	waits(0)
}

// P13.4: a reason is 1 to 1000; by another one nothing is aborted. It does not matter whom it waits for.
func TestAbort(t *testing.T) {
	for _, why := range []api.Errno{1, 2, 17, 18, 19, 21, 22, 500, 999, 1000} {
		isOver(t, "aborted", all(t, of(t, 0, 3, 5), abort(why)), api.Aborted, why)
		isOver(t, "aborted", all(t, of(t, 2, 3, 5), await(0, 2, 3), tick(5), abort(why)), api.Aborted, why)
		isOver(t, "aborted", all(t, of(t, 0, 3, 5), await(1, 2), await(2, 11), abort(why)), api.Aborted, why)
	}
	s := all(t, of(t, 0, 3, 5), await(2, 2), tick(5))
	for _, why := range []api.Errno{0, 1001, 1002, 1 << 30, 1<<32 + 1, math.MaxInt, -1, -1000, -1<<32 + 1, math.MinInt} {
		changesNothing(t, "Abort by no reason", s, func() api.Errno { return s.Abort(why) }, api.ErrArg)
	}
	waitsFor(t, "no reason", s, 2)
}
