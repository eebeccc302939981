package link

import (
	"bytes"
	"math"
	"reflect"
	"testing"

	"windbreak/api"
)

// P11.1: a window is 1 to 16; of others there is no end.
func TestNew(t *testing.T) {
	for window := 1; window <= 16; window++ {
		x, err := New(window)
		if err != api.OK || x == nil {
			t.Fatal("window", window, "error", err)
		}
		sends(t, x, names(0, 20)...)
		out(t, "a whole window", x, framed(0, window, 0)...)
	}
	for _, window := range []int{0, 17, 18, 32, 64, 1<<32 + 1, math.MaxInt, -1, -2, -16, -1<<32 + 1, math.MinInt} {
		if x, err := New(window); err != api.ErrArg || x != nil {
			t.Error("window", window, "error", err, "told", x)
		}
	}
}

// P11.1: a new end knows of nothing: nothing is sure, got, to be told, to be sent, owed.
func TestKnowsNothing(t *testing.T) {
	for window := 1; window <= 16; window++ {
		x := of(t, window)
		counts(t, "new", x, 0, 0)
		next(t, "new", x)
		out(t, "new", x)
		x.Tick()
		out(t, "new, behind a tick", x)
		if err := x.In(answer(1)); err != api.ErrFrame {
			t.Error("an Ack of what was not sent:", err)
		}
		takes(t, "an Ack of nothing", x, answer(0))
		out(t, "behind an Ack of nothing", x)
		counts(t, "behind all that", x, 0, 0)
		next(t, "behind all that", x)
	}
}

// P11.1: a message of no bytes, nil or empty, is one like others.
func TestSendOfNoBytes(t *testing.T) {
	x, y := of(t, 16), of(t, 1)
	for _, none := range [][]byte{nil, {}, make([]byte, 0, 9)} {
		if err := x.Send(none); err != api.OK {
			t.Error("send of no bytes:", err)
		}
	}
	frames := x.Out()
	if !sameFrames(frames, [][]byte{data(0, 0, ""), data(1, 0, ""), data(2, 0, "")}) {
		t.Error("out:", frames)
	}
	takes(t, "of no bytes", y, frames...)
	next(t, "of no bytes", y, "", "", "")
	takes(t, "the answer", x, y.Out()...)
	counts(t, "behind the answer", x, 3, 0)
}

// P11.1: a message of 1048576 bytes is taken, and goes as it is; of one byte more, and of more, it is not.
func TestSendOfLong(t *testing.T) {
	all := bytesOf(1, 1<<21)
	x, y := of(t, 16), of(t, 16)
	for _, count := range []int{1048577, 1048578, 1 << 21} {
		before := copied(x)
		if err := x.Send(all[:count]); err != api.ErrArg {
			t.Error("send of", count, "bytes:", err)
		}
		if !reflect.DeepEqual(copied(x), before) {
			t.Error("send of", count, "bytes changed something")
		}
	}
	for _, count := range []int{1048575, 1048576} {
		if err := x.Send(all[:count]); err != api.OK {
			t.Error("send of", count, "bytes:", err)
		}
	}
	frames := x.Out()
	if !sameFrames(frames, [][]byte{sealed(1, 0, 0, all[:1048575]), sealed(1, 1, 0, all[:1048576])}) {
		t.Fatal("out:", len(frames))
	}
	takes(t, "long ones", y, frames...)
	next(t, "long ones", y, string(all[:1048575]), string(all[:1048576]))
}

// P11.1: 64 that are not sure are taken, and no more, be they sent or not; when some are sure, as many more are.
func TestSendWhenFull(t *testing.T) {
	for _, window := range []int{1, 2, 15, 16} {
		x := of(t, window)
		sends(t, x, names(0, 64)...)
		full := func(what string) {
			t.Helper()
			before := copied(x)
			if err := x.Send([]byte("no")); err != api.ErrLinkFull {
				t.Error(what, err)
			}
			if err := x.Send(nil); err != api.ErrLinkFull {
				t.Error(what, "of no bytes:", err)
			}
			if !reflect.DeepEqual(copied(x), before) {
				t.Error(what, "something changed")
			}
		}
		full("the 65th:")
		out(t, "a window", x, framed(0, window, 0)...)
		full("the 65th, when some were sent:")
		takes(t, "an Ack", x, answer(window))
		sends(t, x, names(64, 64+window)...)
		full("the 65th, when some are sure:")
		out(t, "the next window", x, framed(window, 2*window, 0)...)
	}
}

// P11.1 and R1: of a long message ErrArg is told, which is named first, also where the link is full.
func TestSendOfLongWhenFull(t *testing.T) {
	x := of(t, 3)
	sends(t, x, names(0, 64)...)
	if err := x.Send(make([]byte, api.MaxBytes+1)); err != api.ErrArg {
		t.Error("a long one:", err)
	}
	if err := x.Send(make([]byte, api.MaxBytes)); err != api.ErrLinkFull {
		t.Error("one that is not too long:", err)
	}
}

// late is an end that so many messages of either side went over; no test can send as many.
func late(t *testing.T, window, count int) *End {
	x := of(t, window)
	x.sure, x.sent, x.got = count, count, count
	return x
}

// P11.1: 2^30 messages are taken, and no more, be they sure or not; the last ones go and come like others.
func TestSendOfTheLast(t *testing.T) {
	const all = 1 << 30
	x, y := late(t, 2, all-3), late(t, 16, all-3)
	sends(t, x, "a", "b", "c")
	for range 2 {
		if err := x.Send([]byte("d")); err != api.ErrArg {
			t.Error("one more than 2^30:", err)
		}
		if err := x.Send(nil); err != api.ErrArg {
			t.Error("one more than 2^30, of no bytes:", err)
		}
	}
	first := [][]byte{data(all-3, all-3, "a"), data(all-2, all-3, "b")}
	out(t, "the first", x, first...)
	takes(t, "the first", y, first...)
	out(t, "their answer", y, answer(all-1))
	takes(t, "their answer", x, answer(all-1))
	last := data(all-1, all-3, "c")
	out(t, "the last", x, last)
	takes(t, "the last", y, last)
	next(t, "all of them", y, "a", "b", "c")
	out(t, "the last answer", y, answer(all))
	takes(t, "the last answer", x, answer(all))
	counts(t, "one end", x, all, all-3)
	counts(t, "the other end", y, all-3, all)
	if err := x.Send([]byte("d")); err != api.ErrArg {
		t.Error("one more than 2^30, when all are sure:", err)
	}
	// With 64 that are not sure both errors apply; ErrArg is named first.
	x = late(t, 2, all-64)
	sends(t, x, names(0, 64)...)
	if err := x.Send([]byte("d")); err != api.ErrArg {
		t.Error("one more than 2^30, when the link is full:", err)
	}
	x = late(t, 2, all-65)
	sends(t, x, names(0, 64)...)
	if err := x.Send([]byte("d")); err != api.ErrLinkFull {
		t.Error("the last one, when the link is full:", err)
	}
}

// P11.1: Sure and Got are numbers of their own, and asking changes nothing.
func TestSureAndGot(t *testing.T) {
	x := of(t, 4)
	sends(t, x, "a", "b", "c", "d", "e")
	counts(t, "taken", x, 0, 0)
	x.Out()
	counts(t, "sent", x, 0, 0)
	takes(t, "an Ack", x, answer(3))
	counts(t, "an Ack", x, 3, 0)
	takes(t, "messages", x, data(0, 3, "A"), data(2, 4, "C"))
	counts(t, "one held", x, 4, 1)
	takes(t, "the missing one", x, data(1, 0, "B"))
	counts(t, "none held", x, 4, 3)
	next(t, "told", x, "A", "B", "C")
	before := copied(x)
	for range 3 {
		counts(t, "told", x, 4, 3)
	}
	if !reflect.DeepEqual(copied(x), before) {
		t.Error("asking changed something")
	}
}

// P11.1: a tick is one, however often it was; it tells nothing, and of itself sends nothing.
func TestTick(t *testing.T) {
	x := of(t, 2)
	sends(t, x, "a", "b", "c")
	for range 5 {
		x.Tick()
	}
	counts(t, "ticks", x, 0, 0)
	out(t, "each once, of those that were not sent", x, data(0, 0, "a"), data(1, 0, "b"))
	out(t, "nothing more", x)
	for range 5 {
		x.Tick()
	}
	out(t, "each once more", x, data(0, 0, "a"), data(1, 0, "b"))
	out(t, "nothing more", x)
}

// The document's example.
func TestExample(t *testing.T) {
	a, b := of(t, 1), of(t, 1)
	sends(t, a, "a", "b")
	first := data(0, 0, "a")
	out(t, "the frame 0", a, first)
	out(t, "then nothing", a)
	a.Tick()
	out(t, "behind a tick that frame again", a, first)
	takes(t, "it", b, first)
	out(t, "the answer 1", b, answer(1))
	takes(t, "the answer", a, answer(1))
	counts(t, "sure", a, 1, 0)
	out(t, "the frame 1", a, data(1, 0, "b"))
	if want := []byte{1, 0, 0, 1, 'a'}; !bytes.Equal(first[:5], want) {
		t.Error("the frame's bytes:", first)
	}
}
