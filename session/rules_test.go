package session

import (
	"fmt"
	"math"
	"reflect"
	"slices"
	"sync"
	"testing"

	"windbreak/api"
)

// R3: the kinds that are handed in stay as they are, behind their end too; what is done with them afterwards changes no session.
func TestKindsAreApart(t *testing.T) {
	given := []int{3, 2, 3, 9, 9, 9}
	before := slices.Clone(given)
	kinds := given[:3]
	s := all(t, of(t, 0, 3, 5), await(1, kinds...), tick(1))
	answers(t, "Await", s.Await(2, kinds), api.OK)
	answers(t, "Await again", s.Await(2, kinds), api.ErrOrder)
	answers(t, "wrong ones", s.Await(2, given[:0]), api.ErrArg)
	if !slices.Equal(given, before) {
		t.Error("kinds were changed:", given)
	}
	for i := range given {
		given[i] = 4
	}
	all(t, s, take(1, 2, 0))
	answers(t, "a kind that was put in later", s.Take(2, api.Msg{Kind: 4}), api.ErrOrder)
	given[0] = 0
	s = of(t, 0, 3, 5)
	answers(t, "wrong kinds", s.Await(1, given), api.ErrArg)
	given[0] = 4
	waitsFor(t, "kinds that were mended later", s)
}

// R3: a message that is handed in stays as it is.
func TestMessageStays(t *testing.T) {
	fresh := func() api.Msg {
		return api.Msg{Kind: 5, A: 1, B: 2, C: 3, Ids: []int{5, 4}, Rows: []int{7, 8}, Nats: []api.Nat{{1, 2}, nil, {3}}}
	}
	m := fresh()
	s := all(t, of(t, 0, 3, 5), await(1, 5))
	answers(t, "a message", s.Take(1, m), api.OK)
	answers(t, "one more", s.Take(1, m), api.ErrOrder)
	answers(t, "when it is over", s.Take(1, m), api.ErrOver)
	if !reflect.DeepEqual(m, fresh()) {
		t.Error("the message was changed:", m)
	}
}

// R3: what Who tells is the caller's own: changed, neither the session nor another answer changes.
func TestWhoIsOwn(t *testing.T) {
	s := all(t, of(t, 0, 9, 5), await(7, 2), await(3, 2), await(5, 2))
	other := s.Who()
	for range 3 {
		told := s.Who()
		told = told[:cap(told)]
		for i := range told {
			told[i] = -1
		}
		_ = append(told[:1], 8, 8, 8)
		waitsFor(t, "an answer that was changed", s, 3, 5, 7)
	}
	if !slices.Equal(other, []int{3, 5, 7}) {
		t.Error("another answer was changed:", other)
	}
	all(t, s, take(3, 2, 0))
	if !slices.Equal(other, []int{3, 5, 7}) {
		t.Error("an answer was changed by a later call:", other)
	}
}

// R3: two sessions share nothing.
func TestSessionsAreApart(t *testing.T) {
	s, x := of(t, 0, 3, 5), of(t, 0, 3, 5)
	all(t, s, await(1, 2), tick(5))
	waitsFor(t, "the other one", x)
	all(t, x, await(1, 3), await(2, 3), tick(1))
	waitsFor(t, "the one", s, 1)
	all(t, s, abort(3))
	waitsFor(t, "the other one", x, 1, 2)
	all(t, x, tick(4), take(1, 3, 0), take(2, 3, 0), finish())
	isOver(t, "the one", s, api.Aborted, 3)
}

// R4: the same is told whatever other sessions were asked ahead, and at one time.
func TestNothingKept(t *testing.T) {
	told := func(script []byte) string { return play(t, 0, 6, 9, script).told }
	script := bytesOf(5, 300)
	want := told(script)
	told(bytesOf(6, 300))
	if told(script) != want {
		t.Error("another answer behind other sessions")
	}
	var wait sync.WaitGroup
	var answers [8]string
	for i := range answers {
		wait.Go(func() { answers[i] = told(script) })
	}
	wait.Wait()
	for i := range answers {
		if answers[i] != want {
			t.Error("another answer at one time with others")
		}
	}
}

// R4: what is told does not hang on the order of a map, be it made in whichever order.
func TestOrderOfWaits(t *testing.T) {
	r := seeded(2)
	var want string
	for i := range 200 {
		s := of(t, 0, 16, 5)
		for _, p := range r.Perm(15) {
			all(t, s, await(p+1, 1+p%10))
		}
		got := fmt.Sprint(s.Who(), s.Tick(5), s.Take(7, api.Msg{Kind: 7}), s.Who(), s.Tick(1))
		phase, why := s.State()
		got += fmt.Sprint(phase, why, s.Who())
		if i == 0 {
			want = got
		}
		if got != want {
			t.Fatal("another order, another answer:", got, want)
		}
	}
}

// P1: no call panics, whatever it is given, in whichever order.
func TestAnyArguments(t *testing.T) {
	r := seeded(3)
	calls := everyCall()
	for i := range 3000 {
		s := of(t, i%2, 2+i%15, 1+r.IntN(9))
		for range 20 {
			calls[r.IntN(len(calls))].call(s)
			s.Who()
			s.State()
		}
	}
	for _, n := range []int{math.MinInt, math.MaxInt} {
		New(n, n, n)
	}
}

// P1 and R5: a session that New did not make, which nobody should ask, panics at no call: it knows of nothing, and takes nothing.
func TestNoSession(t *testing.T) {
	for _, s := range []*Session{nil, {}} {
		for _, c := range everyCall() {
			answers(t, c.name, c.call(s), api.ErrArg)
			waitsFor(t, c.name, s)
		}
		if s != nil && !reflect.DeepEqual(*s, Session{}) {
			t.Error("changed:", *s)
		}
	}
}
