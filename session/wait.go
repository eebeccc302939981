package session

import "windbreak/api"

// moment is a time of a session.
type moment struct {
	at int
}

// ago is how long a moment lies back.
func (m moment) ago(now int) int {
	return now - m.at
}

// kindSet is which kinds of messages are meant, each at its number's place.
type kindSet [api.MsgAbort + 1]bool

// wait is from when on, and for which kinds, a peer is waited for.
type wait struct {
	moment
	kinds kindSet
}

// Await waits for a message of some kinds from a party.
func (s *Session) Await(peer int, kinds []int) api.Errno {
	if err := s.refusal(); err != api.OK {
		return err
	}
	set, ok := setOf(kinds)
	if !ok || !s.isPeer(peer) {
		return api.ErrArg
	}
	if _, ok := s.waits[peer]; ok {
		return api.ErrOrder
	}
	s.waits[peer] = wait{moment{s.now}, set}
	return api.OK
}

// Take takes a message that came from a party.
func (s *Session) Take(peer int, m api.Msg) api.Errno {
	if err := s.refusal(); err != api.OK {
		return err
	}
	if !s.isPeer(peer) {
		return api.ErrArg
	}
	if m.Kind == api.MsgAbort {
		s.end(api.Aborted, reasonOf(m))
		return api.OK
	}
	// Of a peer that is not waited for this is the zero wait, which is for no kind.
	if w := s.waits[peer]; !w.kinds.has(m.Kind) {
		s.end(api.Aborted, api.ErrOrder)
		return api.ErrOrder
	}
	delete(s.waits, peer)
	return api.OK
}

// Tick lets time go by.
func (s *Session) Tick(n int) api.Errno {
	if err := s.refusal(); err != api.OK {
		return err
	}
	// By a difference, since a sum with any n might wrap round.
	if n < 1 || n > api.MaxSeq-s.now {
		return api.ErrArg
	}
	s.now += n
	if s.isLate() {
		s.end(api.Aborted, api.ErrTimeout)
		return api.ErrTimeout
	}
	return api.OK
}

// isLate is whether a peer was waited for longer than the patience lasts.
func (s *Session) isLate() bool {
	for _, w := range s.waits {
		if w.ago(s.now) > s.patience {
			return true
		}
	}
	return false
}

// reasonOf is why a peer's MsgAbort says that it is over.
func reasonOf(m api.Msg) api.Errno {
	if why := api.Errno(m.A); isReason(why) {
		return why
	}
	return api.ErrOrder
}

// setOf is the set of some kinds; false: there are none, or one is no kind.
func setOf(kinds []int) (kindSet, bool) {
	var set kindSet
	for _, kind := range kinds {
		if !isKind(kind) {
			return kindSet{}, false
		}
		set[kind] = true
	}
	return set, len(kinds) > 0
}

func (set kindSet) has(kind int) bool {
	return isKind(kind) && set[kind]
}

func isKind(kind int) bool {
	return kind >= api.MsgSetup && kind <= api.MsgAbort
}
