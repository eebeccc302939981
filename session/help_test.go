package session

import (
	"maps"
	"math"
	"math/rand/v2"
	"reflect"
	"slices"
	"testing"

	"windbreak/api"
)

// seeded is a source that is the same for the same seed.
func seeded(seed uint64) *rand.Rand { return rand.New(rand.NewPCG(seed, 13)) }

// bytesOf are so many bytes; they are the same for the same seed.
func bytesOf(seed uint64, count int) []byte {
	r := seeded(seed)
	b := make([]byte, count)
	for i := range b {
		b[i] = byte(r.Uint32())
	}
	return b
}

// of is a session that may be.
func of(t testing.TB, self, parties, patience int) *Session {
	t.Helper()
	s, err := New(self, parties, patience)
	if err != api.OK || s == nil {
		t.Fatalf("new %d %d %d: error %d", self, parties, patience, err)
	}
	return s
}

// answers asks what a call answered.
func answers(t testing.TB, what string, got, want api.Errno) {
	t.Helper()
	if got != want {
		t.Errorf("%s: error %d, asked %d", what, got, want)
	}
}

// waitsFor asks of a session that it is working, and waits for just these.
func waitsFor(t testing.TB, what string, s *Session, want ...int) {
	t.Helper()
	if phase, why := s.State(); phase != 0 || why != 0 {
		t.Errorf("%s: phase %d, why %d, asked working", what, phase, why)
	}
	if got := s.Who(); !slices.Equal(got, want) {
		t.Errorf("%s: waits for %v, asked %v", what, got, want)
	}
}

// isOver asks of a session that it is over, as told, and waits for nobody.
func isOver(t testing.TB, what string, s *Session, phase int, why api.Errno) {
	t.Helper()
	if p, w := s.State(); p != phase || w != why {
		t.Errorf("%s: phase %d, why %d, asked %d, %d", what, p, w, phase, why)
	}
	if got := s.Who(); len(got) > 0 {
		t.Errorf("%s: over, and waits for %v", what, got)
	}
}

// copied is all that a session knows, in memory of its own.
func copied(s *Session) Session {
	c := *s
	c.waits = maps.Clone(s.waits)
	return c
}

// changesNothing asks that a call answers an error, and that the session is as it was.
func changesNothing(t testing.TB, what string, s *Session, call func() api.Errno, want api.Errno) {
	t.Helper()
	before := copied(s)
	answers(t, what, call(), want)
	if after := copied(s); !reflect.DeepEqual(after, before) {
		t.Errorf("%s: %v was changed to %v", what, before, after)
	}
}

// named is a call of a session.
type named struct {
	name string
	call func(s *Session) api.Errno
}

// await, take, tick, finish and abort are such calls.
func await(peer int, kinds ...int) named {
	return named{"Await", func(s *Session) api.Errno { return s.Await(peer, kinds) }}
}

func take(peer, kind, a int) named {
	return named{"Take", func(s *Session) api.Errno { return s.Take(peer, api.Msg{Kind: kind, A: a}) }}
}

func tick(n int) named {
	return named{"Tick", func(s *Session) api.Errno { return s.Tick(n) }}
}

func finish() named {
	return named{"Finish", func(s *Session) api.Errno { return s.Finish() }}
}

func abort(why api.Errno) named {
	return named{"Abort", func(s *Session) api.Errno { return s.Abort(why) }}
}

// all asks of calls, one behind the other, that they answer OK.
func all(t testing.TB, s *Session, calls ...named) *Session {
	t.Helper()
	for i, c := range calls {
		if err := c.call(s); err != api.OK {
			t.Fatalf("call %d, %s: error %d", i, c.name, err)
		}
	}
	return s
}

// everyCall are calls of each kind with arguments that may be, and ones that may not.
func everyCall() []named {
	l := []named{finish()}
	for _, n := range []int{math.MinInt, -1, 0, 1, 2, 11, 12, 15, 16, 1000, 1001, 1 << 30, 1<<30 + 1, math.MaxInt} {
		l = append(l, await(n, 2), await(1, n), await(0, n), take(n, 2, 0), take(1, n, 0), take(0, n, 0), take(0, 11, n), take(1, 11, n), tick(n), abort(api.Errno(n)))
	}
	return append(l, await(0), await(1), await(1, 2, 0), await(99))
}
