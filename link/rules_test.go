package link

import (
	"bytes"
	"reflect"
	"slices"
	"sync"
	"testing"

	"windbreak/api"
)

// spoil overwrites all that bytes could reach, behind their end too.
func spoil(b []byte) {
	b = b[:cap(b)]
	for i := range b {
		b[i] ^= 0x55
	}
}

// rough lets frames of any kind come to an end that sends now and then, with numbers, Acks and bodies as the script says; some are no frames. It tells all that the end told.
func rough(t testing.TB, window int, script []byte) []byte {
	t.Helper()
	x := bothOf(t, window)
	var all []byte
	for i, b := range script {
		got, sent := x.end.Got(), x.model.sent
		switch b % 8 {
		case 0, 1:
			all = append(all, byte(x.send(script[i/2:i])))
		case 2:
			all = append(all, bytes.Join(x.out(), nil)...)
		case 3:
			x.tick()
		case 4:
			all = append(all, byte(x.in(answer(max(0, sent+int(b/8)-16)))))
		case 5, 6:
			all = append(all, byte(x.in(data(max(0, got+int(b/8)-8), max(0, sent-i%3+i%2), string(script[i:])))))
		case 7:
			if err := x.end.In(script[i/2 : i]); err == api.ErrFrame {
				x.same("no frame")
			}
		}
		if i%5 == 0 {
			x.next()
		}
	}
	for x.next() {
	}
	return append(all, byte(x.end.Sure()), byte(x.end.Got()))
}

// P11.1 to P11.3 and P1: whatever frames come, whoever made them, an end does as the document says.
func TestOfAnyFrames(t *testing.T) {
	r := seeded(7)
	for range 3000 {
		rough(t, 1+r.IntN(16), bytesOf(r.Uint64(), r.IntN(120)))
	}
}

// R3: what is handed to Send and In stays as it is, behind its end too.
func TestHandedInStays(t *testing.T) {
	for _, f := range [][]byte{answer(0), data(0, 0, "A"), data(3, 0, "held"), data(0, 9, "refused"), data(99, 0, "far"), []byte("no frame")} {
		all := append(slices.Clone(f), 1, 2, 3, 4, 5, 6, 7, 8)
		given := slices.Clone(all)
		x := of(t, 3)
		x.In(given[:len(f)])
		x.Send(given[:len(f)])
		for range 3 {
			x.Tick()
			for _, b := range x.Out() {
				spoil(b)
			}
			if b, ok := x.Next(); ok {
				spoil(b)
				_ = append(b, 9, 9, 9)
			}
		}
		if !bytes.Equal(given, all) {
			t.Error("changed:", f)
		}
	}
}

// R3: what was handed in is shared with nothing: changed afterwards, nothing that is told changes.
func TestHandedInIsApart(t *testing.T) {
	x := of(t, 2)
	given := []byte("message")
	for range 3 {
		sends(t, x, "message")
	}
	sent := bytes.Clone(given)
	if err := x.Send(sent); err != api.OK {
		t.Fatal(err)
	}
	spoil(sent)
	for _, f := range [][]byte{data(0, 0, "zero"), data(2, 0, "two"), data(1, 0, "one")} {
		takes(t, "a frame", x, f)
		spoil(f)
	}
	next(t, "frames that were spoilt", x, "zero", "one", "two")
	out(t, "the first", x, data(0, 3, "message"), data(1, 3, "message"))
	takes(t, "their Ack", x, answer(2))
	out(t, "a message that was spoilt", x, data(2, 3, "message"), data(3, 3, "message"))
	x.Tick()
	out(t, "the same again", x, data(2, 3, "message"), data(3, 3, "message"))
}

// R3: what Out tells is the caller's own: changed, no later Out changes, and no other frame of it.
func TestOutIsOwn(t *testing.T) {
	x := of(t, 3)
	sends(t, x, names(0, 6)...)
	for range 4 {
		x.Tick()
		l := x.Out()
		for i := range l {
			spoil(l[i])
			l[i] = append(l[i], 9, 9, 9)
			if rest := framed(0, 3, 0)[i+1:]; !sameFrames(l[i+1:], rest) {
				t.Error("frames share memory")
			}
		}
		spoilt := l[:cap(l)]
		clear(spoilt)
	}
	takes(t, "an Ack", x, answer(3))
	out(t, "the others", x, framed(3, 6, 0)...)
}

// R3: what Next tells is the caller's own: changed, no other message changes, nor does what is held.
func TestNextIsOwn(t *testing.T) {
	x := of(t, 3)
	sends(t, x, "a")
	takes(t, "three, and one to be held", x, data(0, 0, "A"), data(1, 0, "B"), data(2, 0, "C"), data(4, 0, "E"))
	var told [][]byte
	for range 3 {
		b, _ := x.Next()
		told = append(told, b)
	}
	for i, b := range told {
		spoil(b)
		_ = append(b, 9, 9, 9)
		for j, later := range told[i+1:] {
			if !bytes.Equal(later, []byte{"ABC"[i+1+j]}) {
				t.Error("messages share memory")
			}
		}
	}
	takes(t, "the missing one", x, data(3, 0, "D"))
	next(t, "what was held", x, "D", "E")
	out(t, "its own message", x, data(0, 5, "a"))
}

// R3: two ends share nothing.
func TestEndsAreApart(t *testing.T) {
	x, y := of(t, 3), of(t, 3)
	sends(t, x, "a", "b")
	takes(t, "to one", x, data(0, 0, "A"), data(2, 0, "C"))
	x.Tick()
	counts(t, "the other one", y, 0, 0)
	next(t, "the other one", y)
	out(t, "the other one", y)
	takes(t, "to the other one", y, data(0, 0, "D"), data(1, 0, "E"))
	next(t, "the other one", y, "D", "E")
	out(t, "the other one", y, answer(2))
	out(t, "the one", x, data(0, 1, "a"), data(1, 1, "b"))
	next(t, "the one", x, "A")
}

// R4: the same is told whatever other ends were asked ahead, and at one time.
func TestNothingKept(t *testing.T) {
	script := bytesOf(8, 400)
	want := rough(t, 4, script)
	rough(t, 9, bytesOf(9, 400))
	if !bytes.Equal(rough(t, 4, script), want) {
		t.Error("another answer behind other ends")
	}
	var wait sync.WaitGroup
	var all [8][]byte
	for i := range all {
		wait.Go(func() { all[i] = rough(t, 4, script) })
	}
	wait.Wait()
	for i := range all {
		if !bytes.Equal(all[i], want) {
			t.Error("another answer at one time with others")
		}
	}
}

// What is sure, and what was told, is not kept.
func TestLetGo(t *testing.T) {
	p := pairOf(t, 3, 16)
	for i := range 400 {
		p.send(0, bytesOf(uint64(i), 50))
		p.send(1, bytesOf(uint64(i), 30))
		p.round(i % 2)
	}
	p.round(0)
	p.round(0)
	for _, x := range p.ends {
		kept := copied(x.end)
		if len(kept.queue) > 0 || len(kept.held) > 0 || len(kept.come) > 0 {
			t.Error("kept:", len(kept.queue), len(kept.held), len(kept.come))
		}
		for _, b := range slices.Concat(x.end.queue[:cap(x.end.queue)], x.end.come[:cap(x.end.come)]) {
			if b != nil {
				t.Error("a message is kept behind the end of a list")
			}
		}
	}
}

// P1 and R5: an end that New did not make, which nobody should ask, panics at no call: it knows of nothing, and takes nothing.
func TestNoEnd(t *testing.T) {
	for _, x := range []*End{nil, {}} {
		for range 2 {
			if err := x.Send([]byte("a")); err != api.ErrArg {
				t.Error("send:", err)
			}
			for _, b := range [][]byte{nil, answer(0), answer(1), data(0, 0, "A"), data(3, 0, "D")} {
				if err := x.In(b); err != api.ErrFrame {
					t.Error("in:", err)
				}
			}
			x.Tick()
			out(t, "no end", x)
			next(t, "no end", x)
			counts(t, "no end", x, 0, 0)
		}
		if x != nil && !reflect.DeepEqual(*x, End{}) {
			t.Error("changed:", *x)
		}
	}
}
