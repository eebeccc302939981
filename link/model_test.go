package link

import (
	"bytes"
	"slices"
	"testing"

	"windbreak/api"
)

// model is an end by the document's words, which forgets nothing.
type model struct {
	window           int
	taken            [][]byte
	sure, sent, told int
	came             [][]byte // those that it got
	held             []numbered
	owes, ticked     bool
}

// numbered is a message that is held.
type numbered struct {
	n    int
	body []byte
}

func (m *model) send(body []byte) api.Errno {
	switch {
	case len(body) > 1048576:
		return 1
	case len(m.taken)-m.sure == 64:
		return 15
	}
	m.taken = append(m.taken, bytes.Clone(body))
	return 0
}

func (m *model) out() [][]byte {
	var l [][]byte
	sent := m.sent
	for n, body := range m.taken {
		again := m.ticked && n < sent && n >= m.sure
		first := n >= sent && n < m.sure+m.window
		if again || first {
			l = append(l, sealed(1, n, len(m.came), body))
		}
		if first {
			m.sent++
		}
	}
	if len(l) == 0 && m.owes {
		l = append(l, answer(len(m.came)))
	}
	m.owes, m.ticked = false, false
	return l
}

// in takes a frame that may be.
func (m *model) in(b []byte) api.Errno {
	kind, seq, ack, body := parts(b)
	if ack > m.sent {
		return 14
	}
	m.sure = max(m.sure, ack)
	if kind == 0 {
		return 0
	}
	m.owes = true
	far := seq < len(m.came) || seq >= len(m.came)+16
	if !far && m.find(seq) < 0 {
		m.held = append(m.held, numbered{seq, bytes.Clone(body)})
	}
	for i := m.find(len(m.came)); i >= 0; i = m.find(len(m.came)) {
		m.came = append(m.came, m.held[i].body)
		m.held = slices.Delete(m.held, i, i+1)
	}
	return 0
}

// find is where a message with that number is held; -1: nowhere.
func (m *model) find(n int) int {
	return slices.IndexFunc(m.held, func(h numbered) bool { return h.n == n })
}

func (m *model) next() ([]byte, bool) {
	if m.told == len(m.came) {
		return nil, false
	}
	m.told++
	return m.came[m.told-1], true
}

// both is an end and the model of it, which are asked the same.
type both struct {
	testing.TB
	end   *End
	model *model
}

func bothOf(t testing.TB, window int) *both {
	t.Helper()
	return &both{t, of(t, window), &model{window: window}}
}

// same asks of the end that its numbers are the model's.
func (b *both) same(what string) {
	b.Helper()
	if b.end.Sure() != b.model.sure || b.end.Got() != len(b.model.came) {
		b.Fatalf("behind %s: sure %d, got %d, asked %d, %d", what, b.end.Sure(), b.end.Got(), b.model.sure, len(b.model.came))
	}
}

func (b *both) send(body []byte) api.Errno {
	b.Helper()
	want := b.model.send(body)
	if err := b.end.Send(body); err != want {
		b.Fatalf("send of %d bytes: error %d, asked %d", len(body), err, want)
	}
	b.same("Send")
	return want
}

func (b *both) tick() {
	b.Helper()
	b.end.Tick()
	b.model.ticked = true
	b.same("Tick")
}

func (b *both) out() [][]byte {
	b.Helper()
	want := b.model.out()
	got := b.end.Out()
	if !sameFrames(got, want) {
		b.Fatalf("out %v, asked %v", got, want)
	}
	b.same("Out")
	return got
}

func (b *both) in(f []byte) api.Errno {
	b.Helper()
	want := b.model.in(f)
	if err := b.end.In(f); err != want {
		b.Fatalf("in of %v: error %d, asked %d", short(f), err, want)
	}
	b.same("In")
	return want
}

func (b *both) next() bool {
	b.Helper()
	want, ok := b.model.next()
	if got, has := b.end.Next(); has != ok || !bytes.Equal(got, want) {
		b.Fatalf("next %v %v, asked %v %v", short(got), has, short(want), ok)
	}
	b.same("Next")
	return ok
}
