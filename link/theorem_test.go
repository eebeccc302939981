package link

import (
	"bytes"
	"testing"

	"windbreak/api"
)

// pair is two ends, all that they took and told, and the frames of each that may still come.
type pair struct {
	testing.TB
	ends  [2]*both
	took  [2][][]byte
	told  [2][][]byte
	under [2][][]byte // by the side that sent them
}

func pairOf(t testing.TB, window0, window1 int) *pair {
	t.Helper()
	return &pair{TB: t, ends: [2]*both{bothOf(t, window0), bothOf(t, window1)}}
}

func (p *pair) send(side int, body []byte) {
	p.Helper()
	if p.ends[side].send(body) == api.OK {
		p.took[side] = append(p.took[side], bytes.Clone(body))
	}
}

func (p *pair) out(side int) {
	p.Helper()
	p.under[side] = append(p.under[side], p.ends[side].out()...)
}

// come lets a frame that a side sent come to the other side; no frame of an end is refused by the other one.
func (p *pair) come(side, i int) {
	p.Helper()
	if err := p.ends[1-side].in(p.under[side][i]); err != api.OK {
		p.Fatalf("a frame of the side %d: error %d", side, err)
	}
	p.listen(1 - side)
}

// drop takes a frame from under way, so that those that are left may come in another order than they were sent in.
func (p *pair) drop(side, i int) {
	l := p.under[side]
	l[i] = l[len(l)-1]
	p.under[side] = l[:len(l)-1]
}

// listen asks a side for all that it got.
func (p *pair) listen(side int) {
	p.Helper()
	m := p.ends[side].model
	for p.ends[side].next() {
		p.told[side] = append(p.told[side], m.came[m.told-1])
	}
}

// holds asks what the theorem says of every moment.
func (p *pair) holds() {
	p.Helper()
	for side, x := range p.ends {
		other := p.ends[1-side].end
		if len(p.told[side]) != x.end.Got() {
			p.Fatalf("side %d: told %d, got %d", side, len(p.told[side]), x.end.Got())
		}
		took := p.took[1-side]
		if x.end.Got() > len(took) || !sameFrames(p.told[side], took[:x.end.Got()]) {
			p.Fatalf("side %d: what it got is not the beginning of what the other one took", side)
		}
		if x.end.Sure() > other.Got() {
			p.Fatalf("side %d: %d are sure, but the other one got %d", side, x.end.Sure(), other.Got())
		}
	}
}

// open is how many messages of a side are not sure.
func (p *pair) open(side int) int { return len(p.took[side]) - p.ends[side].end.Sure() }

// exchange lets all frames that a side has to send come to the other one, and no other frames.
func (p *pair) exchange(side int) {
	p.Helper()
	for _, f := range p.ends[side].out() {
		if err := p.ends[1-side].in(f); err != api.OK {
			p.Fatalf("a frame of the side %d: error %d", side, err)
		}
	}
	p.listen(1 - side)
}

// round is a tick of both, one's frames to the other, and back.
func (p *pair) round(first int) {
	p.Helper()
	p.ends[0].tick()
	p.ends[1].tick()
	p.exchange(first)
	p.exchange(1 - first)
	p.holds()
}

// settle asks that, of each side, as many rounds as its messages are not sure, and 2, are enough. Old frames may come between, as late says.
func (p *pair) settle(first int, late func()) {
	p.Helper()
	open := [2]int{p.open(0), p.open(1)}
	for done := 1; done <= max(open[0], open[1])+2; done++ {
		p.round(first)
		late()
		p.holds()
		for side, x := range p.ends {
			if done < open[side]+2 {
				continue
			}
			if p.open(side) > 0 || p.ends[1-side].end.Got() != len(p.took[side]) {
				p.Fatalf("side %d: %d were not sure, %d rounds, %d are not sure, window %d, the other one's window %d", side, open[side], done, p.open(side), x.model.window, p.ends[1-side].model.window)
			}
		}
	}
	// Then the link falls silent.
	p.round(first)
	p.round(first)
	for side, x := range p.ends {
		x.tick()
		if l := x.out(); len(l) > 0 {
			p.Fatalf("side %d: all is sure, but frames go: %v", side, l)
		}
	}
}

// step does what two bytes of a script say: what, and with which frame or message.
func (p *pair) step(what, which byte) {
	p.Helper()
	side := int(what & 1)
	frame := -1
	if l := p.under[side]; len(l) > 0 {
		frame = int(which) % len(l)
	}
	switch what / 2 % 8 {
	case 0:
		p.send(side, bytes.Repeat([]byte{which}, int(which)%5))
	case 1:
		for i := range int(which) % 70 {
			p.send(side, []byte{which, byte(i)})
		}
	case 2:
		p.out(side)
	case 3:
		p.ends[side].tick()
		if which%2 == 0 {
			p.out(side)
		}
	case 4, 5:
		if frame >= 0 {
			p.come(side, frame)
			p.drop(side, frame)
		}
	case 6:
		if frame >= 0 {
			p.come(side, frame)
		}
	case 7:
		if frame >= 0 {
			p.drop(side, frame)
		}
	}
	p.holds()
}

// play goes through a script, and then lets all frames come, while those that are under way come now and then, as bytes of the script say.
func play(t testing.TB, window0, window1 int, script []byte) *pair {
	t.Helper()
	p := pairOf(t, window0, window1)
	for i := 0; i+1 < len(script); i += 2 {
		p.step(script[i], script[i+1])
	}
	at := 0
	p.settle(len(script)/2%2, func() {
		for side := range 2 {
			if len(p.under[side]) == 0 || len(script) == 0 {
				continue
			}
			at++
			if b := int(script[at%len(script)]); b%3 > 0 {
				p.come(side, b%len(p.under[side]))
			}
		}
	})
	return p
}

// P11.4: whatever happens to frames: what an end got is the beginning of what the other one took, no more are sure to one than the other has got; and from any moment on, so many rounds, and 2, are enough.
func TestTheorem(t *testing.T) {
	r := seeded(4)
	took, got, late := 0, 0, 0
	for range 1200 {
		script := bytesOf(r.Uint64(), 2*r.IntN(250))
		p := play(t, 1+r.IntN(16), 1+r.IntN(16), script)
		for side := range 2 {
			took += len(p.took[side])
			got += len(p.told[side])
			late += len(p.under[side])
		}
	}
	if took < 50000 || got != took || late < 1000 {
		t.Error("of these scripts too little is to be seen:", took, got, late)
	}
}

// P11.4: the same where hardly a frame comes, or nearly each, or most of them twice.
func TestTheoremOfBadLinks(t *testing.T) {
	r := seeded(5)
	for _, often := range [][]byte{
		{0, 1, 4, 5, 6, 7, 14, 15, 14, 15, 8, 9},         // mostly lost
		{0, 1, 2, 3, 4, 5, 6, 7, 12, 13, 12, 13, 12, 13}, // mostly twice
		{0, 1, 4, 5, 8, 9, 8, 9, 10, 11},                 // mostly come, and without a tick
		{2, 4, 6, 13, 15, 9, 8, 10, 12},                  // one side's mostly
		{0, 1, 4, 6, 5, 7, 5, 7, 9, 11},                  // nothing of the side 0 comes
	} {
		for range 300 {
			var script []byte
			for range r.IntN(300) {
				script = append(script, often[r.IntN(len(often))], byte(r.Uint32()))
			}
			play(t, 1+r.IntN(16), 1+r.IntN(16), script)
		}
	}
}

// P11.4: a full link of each window needs no more rounds, from its first moment on, whoever begins and whatever the other one has.
func TestTheoremOfFullLinks(t *testing.T) {
	for window0 := 1; window0 <= 16; window0++ {
		for _, window1 := range []int{1, 2, 15, 16} {
			for _, count := range [][2]int{{64, 64}, {64, 0}, {0, 64}, {64, 1}, {1, 64}, {1, 1}, {0, 0}} {
				for first := range 2 {
					p := pairOf(t, window0, window1)
					for side := range 2 {
						for i := range count[side] {
							p.send(side, []byte{byte(side), byte(i)})
						}
					}
					p.settle(first, func() {})
				}
			}
		}
	}
}

// P11.4: where all frames of one side are lost for long, the other one keeps what is not sure, and gives way when its queue is full.
func TestTheoremOfCutLink(t *testing.T) {
	p := pairOf(t, 16, 3)
	for i := range 100 {
		p.send(0, []byte{byte(i)})
		p.send(1, []byte{byte(i)})
		p.ends[0].tick()
		p.ends[1].tick()
		p.exchange(0)
		p.ends[1].out() // lost
		p.holds()
	}
	if p.open(0) != 64 || p.open(1) != 64 || p.ends[1].end.Got() != 16 || p.ends[0].end.Got() != 0 {
		t.Error("a cut link:", p.open(0), p.open(1), p.ends[1].end.Got(), p.ends[0].end.Got())
	}
	p.settle(0, func() {})
}

// P11.4: a long talk, in which messages are taken all the while and each frame of three is lost.
func TestTheoremOfLongTalk(t *testing.T) {
	r := seeded(6)
	p := pairOf(t, 5, 16)
	for i := range 4000 {
		side := r.IntN(2)
		p.send(side, []byte{byte(i), byte(i >> 8)})
		if r.IntN(4) == 0 {
			p.ends[side].tick()
		}
		p.out(side)
		for len(p.under[side]) > 8 {
			at := r.IntN(len(p.under[side]))
			if r.IntN(3) > 0 {
				p.come(side, at)
			}
			p.drop(side, at)
		}
		p.holds()
	}
	if len(p.told[0]) < 500 || len(p.told[1]) < 500 {
		t.Error("too little came:", len(p.told[0]), len(p.told[1]))
	}
	p.settle(1, func() {})
}

// FuzzLink looks for scripts at which an end panics, or does otherwise than the document says.
func FuzzLink(f *testing.F) {
	f.Add(uint8(1), uint8(16), []byte{0, 3, 4, 0, 8, 0, 5, 0, 9, 0})
	f.Add(uint8(3), uint8(2), []byte{2, 69, 4, 0, 6, 0, 14, 0, 12, 1, 12, 1, 5, 0, 9, 0, 4, 0})
	f.Fuzz(func(t *testing.T, window0, window1 uint8, script []byte) {
		if len(script) > 1000 {
			return
		}
		play(t, 1+int(window0)%16, 1+int(window1)%16, script)
		rough(t, 1+int(window0)%16, script)
	})
}
