package link

import (
	"testing"

	"windbreak/api"
)

// P11.2: with nothing to send and no answer that is owed there is no frame, behind a tick or not.
func TestOutOfNothing(t *testing.T) {
	x := of(t, 5)
	for range 3 {
		out(t, "no tick", x)
		x.Tick()
		out(t, "a tick", x)
	}
	// What is sure goes no more, neither of itself nor behind a tick.
	sends(t, x, "a", "b")
	out(t, "both", x, data(0, 0, "a"), data(1, 0, "b"))
	takes(t, "their Ack", x, answer(2))
	for range 3 {
		out(t, "all sure, no tick", x)
		x.Tick()
		out(t, "all sure, a tick", x)
	}
}

// P11.2: as many go as are below Sure and the window together; more, as soon as more are sure.
func TestOutOfWindow(t *testing.T) {
	for window := 1; window <= 16; window++ {
		x := of(t, window)
		for n, name := range names(0, 64) {
			sends(t, x, name)
			if n < window {
				out(t, "the window is not full", x, data(n, 0, name))
			}
			out(t, "the window is full, or all were sent", x)
		}
		sure := 0
		for _, ack := range []int{1, 1, 2, window, window + 1, 2*window + 1, 3 * window} {
			if ack < sure || ack > min(64, sure+window) {
				continue
			}
			takes(t, "an Ack", x, answer(ack))
			out(t, "so many more", x, framed(min(64, sure+window), min(64, ack+window), 0)...)
			out(t, "no more", x)
			sure = ack
		}
		counts(t, "at last", x, sure, 0)
	}
}

// P11.2: behind a tick all that were sent and are not sure go again, and then those that were not sent; each once, by rising numbers.
func TestOutBehindTick(t *testing.T) {
	x := of(t, 4)
	sends(t, x, names(0, 3)...)
	out(t, "the first three", x, framed(0, 3, 0)...)
	sends(t, x, names(3, 9)...)
	x.Tick()
	out(t, "again, and one more", x, framed(0, 4, 0)...)
	out(t, "the tick is over", x)
	x.Tick()
	out(t, "again, the window is full", x, framed(0, 4, 0)...)
	takes(t, "an Ack", x, answer(2))
	out(t, "no tick: just the new ones", x, framed(4, 6, 0)...)
	takes(t, "an Ack", x, answer(3))
	x.Tick()
	out(t, "a tick: what is not sure, and the new one", x, framed(3, 7, 0)...)
	takes(t, "all of them", x, answer(7))
	x.Tick()
	out(t, "a tick, all that were sent are sure", x, framed(7, 9, 0)...)
	out(t, "the tick is over", x)
	takes(t, "all", x, answer(9))
	x.Tick()
	out(t, "a tick, all are sure", x)
}

// P11.2: a tick is used up by an Out, also by one that had no frames, or an answer alone.
func TestTickIsUsedUp(t *testing.T) {
	x := of(t, 4)
	x.Tick()
	out(t, "nothing", x)
	sends(t, x, "a")
	out(t, "the first time", x, data(0, 0, "a"))
	out(t, "no tick any more", x)

	x = of(t, 4)
	x.Tick()
	takes(t, "a message", x, data(0, 0, "A"))
	out(t, "an answer", x, answer(1))
	sends(t, x, "a")
	out(t, "the first time", x, data(0, 1, "a"))
	out(t, "no tick any more", x)

	x = of(t, 4)
	x.Tick()
	sends(t, x, "a")
	out(t, "the first time, behind a tick", x, data(0, 0, "a"))
	out(t, "no tick any more", x)
}

// P11.2: an answer goes alone, where no message does; it goes once, and its Ack is how many were got.
func TestOutOfAnswer(t *testing.T) {
	x := of(t, 4)
	takes(t, "a message", x, data(0, 0, "A"))
	out(t, "the answer", x, answer(1))
	out(t, "just once", x)
	x.Tick()
	out(t, "not behind a tick", x)
	takes(t, "three", x, data(1, 0, "B"), data(2, 0, "C"), data(3, 0, "D"))
	out(t, "one answer to three", x, answer(4))
	out(t, "just once", x)
	takes(t, "one that came ahead", x, data(2, 0, "C"))
	out(t, "that is answered too", x, answer(4))
	takes(t, "one that is held", x, data(9, 0, "J"))
	out(t, "that is answered too", x, answer(4))
	takes(t, "one that is too far", x, data(99, 0, "no"))
	out(t, "that is answered too", x, answer(4))
	takes(t, "no Data", x, answer(0))
	out(t, "that is not answered", x)
}

// P11.2: where messages go, no answer goes beside them: each has the Ack, and no answer is owed any more.
func TestOutOfMessagesAnswers(t *testing.T) {
	x := of(t, 2)
	sends(t, x, "a", "b", "c")
	takes(t, "two", x, data(0, 0, "A"), data(1, 0, "B"))
	out(t, "messages with their Ack", x, data(0, 2, "a"), data(1, 2, "b"))
	out(t, "no answer behind them", x)
	takes(t, "one more", x, data(2, 0, "C"))
	x.Tick()
	out(t, "again, with another Ack", x, data(0, 3, "a"), data(1, 3, "b"))
	out(t, "no answer behind them", x)
	x.Tick()
	out(t, "again, and nothing was owed", x, data(0, 3, "a"), data(1, 3, "b"))
}

// P11.2: where the window is full and there was no tick, no message goes, so what is owed goes alone.
func TestOutOfAnswerWhenFull(t *testing.T) {
	x := of(t, 1)
	sends(t, x, "a", "b")
	out(t, "the first", x, data(0, 0, "a"))
	takes(t, "a message", x, data(0, 0, "A"))
	out(t, "the window is full", x, answer(1))
	out(t, "just once", x)
	takes(t, "a message that makes one sure", x, data(1, 1, "B"))
	out(t, "the window is free", x, data(1, 2, "b"))
	takes(t, "a message", x, data(2, 1, "C"))
	x.Tick()
	out(t, "full, with a tick", x, data(1, 3, "b"))
	out(t, "nothing is owed", x)
}

// P11.2: each of a tick's frames has the Ack of its Out, not of the one in which it went first.
func TestOutOfLateAck(t *testing.T) {
	x := of(t, 3)
	sends(t, x, "a", "b", "c")
	out(t, "nothing got", x, data(0, 0, "a"), data(1, 0, "b"), data(2, 0, "c"))
	for n, name := range names(0, 20) {
		takes(t, "one", x, data(n, 0, name))
		x.Tick()
		out(t, "one more got", x, data(0, n+1, "a"), data(1, n+1, "b"), data(2, n+1, "c"))
	}
	counts(t, "at last", x, 0, 20)
}

// P11.2: whether Next told what came does not matter for the Ack.
func TestAckBeforeNext(t *testing.T) {
	x := of(t, 1)
	takes(t, "two", x, data(0, 0, "A"), data(1, 0, "B"))
	out(t, "none told", x, answer(2))
	next(t, "both", x, "A", "B")
	out(t, "both told", x)
	takes(t, "a third", x, data(2, 0, "C"))
	out(t, "the third not told", x, answer(3))
}

// P11.2: messages that were not sent go in the Out behind, by their own numbers, whatever the order of Send, In and Out.
func TestNumbersRise(t *testing.T) {
	x := of(t, 16)
	for round := range 40 {
		name := names(3*round, 3*round+3)
		sends(t, x, name...)
		out(t, "three", x, framed(3*round, 3*round+3, 0)...)
		takes(t, "their Ack", x, answer(3*round+3))
	}
	counts(t, "at last", x, 120, 0)
	if err := x.In(answer(121)); err != api.ErrFrame {
		t.Error("an Ack of one more:", err)
	}
}
