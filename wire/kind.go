package wire

import (
	"windbreak/api"
	"windbreak/nat"
)

// mostLimbs is how many a message's Nat has at most.
const mostLimbs = 4

// kind is what messages of a kind may have: of each number the most that it is, of each list how many things.
type kind struct {
	a, b, c         int
	ids, rows, nats span
	paired          bool // as many Nats as Ids
}

// span is from how many to how many.
type span struct {
	least, most int
}

// kinds are what each kind has, at its number's place. What is left out there it has not: a most of 0.
func kinds() [api.MsgAbort + 1]kind {
	return [...]kind{
		api.MsgSetup:  {a: api.MaxSeq, b: api.MaxSeq, nats: span{1, 1}},
		api.MsgReady:  {a: api.MaxSeq, b: api.MaxSeq},
		api.MsgGrads:  {a: api.MaxSeq, nats: span{0, api.MaxList}},
		api.MsgAsk:    {a: api.MaxSeq, b: api.MaxSeq, rows: span{0, api.MaxList}},
		api.MsgHist:   {a: api.MaxSeq, b: api.MaxSeq, ids: span{0, api.MaxList}, nats: span{0, api.MaxList}, paired: true},
		api.MsgChoose: {a: api.MaxSeq, b: api.MaxSeq, ids: span{1, api.MaxList}},
		api.MsgChosen: {a: api.MaxSeq, b: api.MaxSeq, c: api.MaxSeq, rows: span{0, api.MaxList}},
		api.MsgQuery:  {a: api.MaxSeq, b: api.MaxSeq},
		api.MsgAnswer: {a: api.MaxSeq, b: api.MaxSeq, c: 1},
		api.MsgDone:   {a: api.MaxSeq},
		api.MsgAbort:  {a: api.MaxSeq},
	}
}

// kindOf is what a message's kind has; false: there is no such kind.
func kindOf(m api.Msg) (kind, bool) {
	if m.Kind < api.MsgSetup || m.Kind > api.MsgAbort {
		return kind{}, false
	}
	return kinds()[m.Kind], true
}

// hasNumbers is whether a message's own numbers are such as its kind has.
func (k kind) hasNumbers(m api.Msg) bool {
	return isUpTo(m.A, k.a) && isUpTo(m.B, k.b) && isUpTo(m.C, k.c)
}

// hasLists is whether a message's lists have as many things as its kind has.
func (k kind) hasLists(m api.Msg) bool {
	if k.paired && len(m.Ids) != len(m.Nats) {
		return false
	}
	return k.ids.holds(len(m.Ids)) && k.rows.holds(len(m.Rows)) && k.nats.holds(len(m.Nats))
}

func (s span) holds(count int) bool {
	return count >= s.least && count <= s.most
}

func isUpTo(n, most int) bool {
	return n >= 0 && n <= most
}

// areNumbers is whether a list's numbers are such as a message has.
func areNumbers(list []int) bool {
	for _, n := range list {
		if !isUpTo(n, api.MaxSeq) {
			return false
		}
	}
	return true
}

// rise is whether each number is above the one ahead of it.
func rise(list []int) bool {
	for i := range list {
		if i > 0 && list[i] <= list[i-1] {
			return false
		}
	}
	return true
}

// areNats is whether a list's Nats are such as a message has.
func areNats(list []api.Nat) bool {
	for _, a := range list {
		if !nat.Right(a) || len(a) > mostLimbs {
			return false
		}
	}
	return true
}
