package session

import (
	"slices"
	"testing"

	"windbreak/api"
)

// model is a session by the document's words.
type model struct {
	self, parties, patience int
	time                    int
	waits                   []waited
	phase                   int
	why                     api.Errno
}

// waited is a peer that is waited for.
type waited struct {
	peer, since int
	kinds       []int
}

// at is where a peer that is waited for stands; -1: it is not.
func (m *model) at(peer int) int {
	return slices.IndexFunc(m.waits, func(w waited) bool { return w.peer == peer })
}

// peers are those that a party has.
func (m *model) peers() []int {
	if m.self > 0 {
		return []int{0}
	}
	var l []int
	for p := 1; p < m.parties; p++ {
		l = append(l, p)
	}
	return l
}

func (m *model) over(phase int, why, answer api.Errno) api.Errno {
	m.phase, m.why, m.waits = phase, why, nil
	return answer
}

func (m *model) await(peer int, kinds []int) api.Errno {
	bad := slices.ContainsFunc(kinds, func(k int) bool { return k < 1 || k > 11 })
	switch {
	case m.phase != 0:
		return 17
	case !slices.Contains(m.peers(), peer) || len(kinds) == 0 || bad:
		return 1
	case m.at(peer) >= 0:
		return 18
	}
	m.waits = append(m.waits, waited{peer, m.time, slices.Clone(kinds)})
	return 0
}

func (m *model) take(peer int, msg api.Msg) api.Errno {
	i := m.at(peer)
	switch {
	case m.phase != 0:
		return 17
	case !slices.Contains(m.peers(), peer):
		return 1
	case msg.Kind == 11 && (msg.A < 1 || msg.A > 1000):
		return m.over(2, 18, 0)
	case msg.Kind == 11:
		return m.over(2, api.Errno(msg.A), 0)
	case i < 0 || !slices.Contains(m.waits[i].kinds, msg.Kind):
		return m.over(2, 18, 18)
	}
	m.waits = slices.Delete(m.waits, i, i+1)
	return 0
}

func (m *model) tick(n int) api.Errno {
	switch {
	case m.phase != 0:
		return 17
	case n < 1 || n > 1<<30 || m.time+n > 1<<30:
		return 1
	}
	m.time += n
	if slices.ContainsFunc(m.waits, func(w waited) bool { return m.time > w.since+m.patience }) {
		return m.over(2, 19, 19)
	}
	return 0
}

func (m *model) finish() api.Errno {
	switch {
	case m.phase != 0:
		return 17
	case len(m.waits) > 0:
		return 18
	}
	return m.over(1, 0, 0)
}

func (m *model) abort(why api.Errno) api.Errno {
	switch {
	case m.phase != 0:
		return 17
	case why < 1 || why > 1000:
		return 1
	}
	return m.over(2, why, 0)
}

func (m *model) who() []int {
	var l []int
	for _, w := range m.waits {
		l = append(l, w.peer)
	}
	slices.Sort(l)
	return l
}

// both is a session and the model of it, which are asked the same; and what the theorem needs to know of the calls, by their answers alone.
type both struct {
	testing.TB
	s     *Session
	model *model
	time  int
	from  map[int]int // from when on a peer is waited for
	phase int
	why   api.Errno
	calls int
}

func bothOf(t testing.TB, self, parties, patience int) *both {
	t.Helper()
	m := &model{self: self, parties: parties, patience: patience}
	return &both{TB: t, s: of(t, self, parties, patience), model: m, from: map[int]int{}}
}

// same asks that a call answered as the model does, and left the session as the model has it; and what the theorem says of each moment.
func (b *both) same(what string, got, want api.Errno) api.Errno {
	b.Helper()
	b.calls++
	phase, why := b.s.State()
	if got != want || phase != b.model.phase || why != b.model.why || !slices.Equal(b.s.Who(), b.model.who()) {
		b.Fatalf("call %d, %s: error %d, phase %d, why %d, who %v; asked %d, %d, %d, %v", b.calls, what, got, phase, why, b.s.Who(), want, b.model.phase, b.model.why, b.model.who())
	}
	b.staysOver(what, got)
	b.isPatient(what)
	return got
}

// staysOver asks that what was over ahead of a call is so behind it, with its reason.
func (b *both) staysOver(what string, got api.Errno) {
	b.Helper()
	phase, why := b.s.State()
	if b.phase != api.Working && (got != api.ErrOver || phase != b.phase || why != b.why) {
		b.Fatalf("call %d, %s: error %d, phase %d, why %d; it was over, %d, by %d", b.calls, what, got, phase, why, b.phase, b.why)
	}
	if b.phase == api.Working && got == api.ErrOver {
		b.Fatalf("call %d, %s: ErrOver of a session that was working", b.calls, what)
	}
	b.phase, b.why = phase, why
}

// isPatient asks that a session is over, or has taken a message of each peer for which it waited longer than its patience.
func (b *both) isPatient(what string) {
	b.Helper()
	for peer, since := range b.from {
		if b.phase == api.Working && b.time-since > b.model.patience {
			b.Fatalf("call %d, %s: it waits for %d since %d, and now it is %d", b.calls, what, peer, since, b.time)
		}
	}
}

func (b *both) await(peer int, kinds ...int) api.Errno {
	b.Helper()
	want, got := b.model.await(peer, kinds), b.s.Await(peer, kinds)
	if got == api.OK {
		b.from[peer] = b.time
	}
	return b.same("Await", got, want)
}

func (b *both) take(peer int, m api.Msg) api.Errno {
	b.Helper()
	want, got := b.model.take(peer, m), b.s.Take(peer, m)
	if got == api.OK {
		delete(b.from, peer)
	}
	return b.same("Take", got, want)
}

func (b *both) tick(n int) api.Errno {
	b.Helper()
	want, got := b.model.tick(n), b.s.Tick(n)
	if got == api.OK || got == api.ErrTimeout {
		b.time += n
	}
	return b.same("Tick", got, want)
}

func (b *both) finish() api.Errno {
	b.Helper()
	want, got := b.model.finish(), b.s.Finish()
	return b.same("Finish", got, want)
}

func (b *both) abort(why api.Errno) api.Errno {
	b.Helper()
	want, got := b.model.abort(why), b.s.Abort(why)
	return b.same("Abort", got, want)
}
