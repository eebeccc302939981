package session

import (
	"fmt"
	"testing"

	"windbreak/api"
)

// played is what became of a session that a script was gone through with.
type played struct {
	*both
	taken int
	told  string
}

// play goes through a script: each step is a byte that says what, and one that says with what. At each step the session does as the model, and as the theorem says.
func play(t testing.TB, self, parties, patience int, script []byte) *played {
	t.Helper()
	p := &played{both: bothOf(t, self, parties, patience)}
	for i := 0; i+1 < len(script); i += 2 {
		err := p.step(script[i], int(script[i+1]))
		phase, why := p.s.State()
		p.told += fmt.Sprintln(err, phase, why, p.s.Who())
	}
	return p
}

// step does what two bytes of a script say. Most steps are such as may be, so that not all sessions end soon.
func (p *played) step(what byte, with int) api.Errno {
	p.Helper()
	peers := p.model.peers()
	peer := peers[with%len(peers)]
	switch what % 32 {
	case 0, 1, 2, 3, 4, 5, 6, 7:
		return p.await(peer, 1+with%11)
	case 8, 9, 10, 11:
		return p.await(peer, 1+with%11, 1+with/11%11, 1+with/22%11)
	case 12, 13, 14, 15, 16, 17, 18, 19:
		return p.takeAwaited(with)
	case 20, 21, 22, 23, 24:
		return p.tick(1 + with%3)
	case 25:
		return p.tick(with - 3)
	case 26:
		return p.tick((1<<30 - p.model.time) + with - 200)
	case 27:
		return p.await(with%19-1, with%14, 2)
	case 28:
		return p.finish()
	}
	if with%4 > 0 { // these mostly end it
		return p.takeAwaited(with)
	}
	switch what % 32 {
	case 29:
		return p.take(with/4%19-1, api.Msg{Kind: with % 13, A: with})
	case 30:
		return p.take(peer, api.Msg{Kind: 11, A: with*5 - 100})
	default:
		return p.abort(api.Errno(with*5 - 100))
	}
}

// takeAwaited lets a message come that is waited for, if there is one.
func (p *played) takeAwaited(with int) api.Errno {
	p.Helper()
	if len(p.model.waits) == 0 {
		return p.tick(1)
	}
	w := p.model.waits[with%len(p.model.waits)]
	err := p.take(w.peer, api.Msg{Kind: w.kinds[with%len(w.kinds)], A: with})
	if err == api.OK {
		p.taken++
	}
	return err
}

// P13.5: what is over stays so, with its reason, whatever is called; and who is waited for longer than the patience has sent something, or it is over. Over many rows of calls; P13.1 to P13.4, too.
func TestTheorem(t *testing.T) {
	r := seeded(4)
	ends := map[string]int{}
	taken := 0
	for range 6000 {
		parties := 2 + r.IntN(15)
		self := 0
		if r.IntN(3) == 0 {
			self = r.IntN(parties)
		}
		p := play(t, self, parties, 1+r.IntN(12), bytesOf(r.Uint64(), 2*r.IntN(120)))
		phase, why := p.s.State()
		taken += p.taken
		if phase == api.Aborted && why != api.ErrOrder && why != api.ErrTimeout {
			why = 0
		}
		ends[fmt.Sprint(phase, why)]++
	}
	for _, end := range []string{"0 0", "1 0", "2 0", "2 18", "2 19"} {
		if ends[end] < 200 || taken < 5000 {
			t.Error("of these rows too little is to be seen:", ends, taken)
		}
	}
}

// P13.5: every row of five calls out of some, and behind each that ends all calls again.
func TestTheoremOfAllRows(t *testing.T) {
	calls := []func(b *both){
		func(b *both) { b.await(1, 2) },
		func(b *both) { b.await(2, 2, 3) },
		func(b *both) { b.take(1, api.Msg{Kind: 2}) },
		func(b *both) { b.take(2, api.Msg{Kind: 3}) },
		func(b *both) { b.take(1, api.Msg{Kind: 11, A: 8}) },
		func(b *both) { b.tick(1) },
		func(b *both) { b.tick(2) },
		func(b *both) { b.finish() },
		func(b *both) { b.abort(9) },
	}
	rows := 1
	for range 5 {
		rows *= len(calls)
	}
	for row := range rows {
		b := bothOf(t, 0, 3, 2)
		for n, left := row, 5; left > 0; n, left = n/len(calls), left-1 {
			calls[n%len(calls)](b)
		}
		if b.phase == api.Working {
			continue
		}
		for _, call := range calls {
			call(b)
		}
	}
}

// P13.5: whoever is waited for, from whatever time on, is not waited for longer than the patience, however time goes by; and no shorter.
func TestTheoremOfWaiting(t *testing.T) {
	r := seeded(5)
	for range 4000 {
		patience := 1 + r.IntN(30)
		b := bothOf(t, 0, 4, patience)
		b.tick(1 + r.IntN(40))
		from := b.time
		b.await(2, 2)
		for b.phase == api.Working {
			if b.await(1, 3) == api.ErrOrder && r.IntN(2) == 0 {
				b.take(1, api.Msg{Kind: 3})
			}
			err := b.tick(1 + r.IntN(4))
			late := b.time-from > patience
			if late && err != api.ErrTimeout {
				t.Fatal("since", from, "now", b.time, "patience", patience, "error", err)
			}
			if err == api.ErrTimeout && !late && b.time-b.from[1] <= patience {
				t.Fatal("too soon: since", from, b.from[1], "now", b.time, "patience", patience)
			}
		}
	}
}

// FuzzSession looks for rows of calls at which a session panics, or does otherwise than the document says.
func FuzzSession(f *testing.F) {
	f.Add(uint8(0), uint8(3), uint8(5), []byte{0, 1, 12, 0, 20, 2, 0, 0, 20, 2, 28, 0})
	f.Add(uint8(2), uint8(3), uint8(2), []byte{8, 90, 25, 9, 31, 60, 30, 44, 29, 8})
	f.Fuzz(func(t *testing.T, self, parties, patience uint8, script []byte) {
		if len(script) > 1000 {
			return
		}
		n := 2 + int(parties)%15
		play(t, int(self)%n, n, 1+int(patience), script)
	})
}
