package link

import (
	"bytes"
	"reflect"
	"slices"
	"testing"

	"windbreak/api"
)

// busy is an end in the midst of things: 2 are sure, 5 were sent, 7 taken; 3 are got, of which one was told; 5 and 18 are held; it owes an answer, and there was a tick.
func busy(t *testing.T) *End {
	t.Helper()
	x := of(t, 3)
	sends(t, x, names(0, 7)...)
	x.Out()
	takes(t, "busy", x, answer(2), data(0, 1, "A"), data(1, 2, "B"))
	x.Out()
	x.Next()
	takes(t, "busy", x, data(2, 0, "C"), data(5, 2, "F"), data(18, 2, "S"))
	x.Tick()
	counts(t, "busy", x, 2, 3)
	return x
}

// refuses asks of an end that it refuses bytes, and that nothing changes.
func refuses(t *testing.T, what string, x *End, b []byte) {
	t.Helper()
	before := copied(x)
	if err := x.In(b); err != api.ErrFrame {
		t.Errorf("%s: %d bytes %v: error %d", what, len(b), short(b), err)
	}
	if !reflect.DeepEqual(copied(x), before) {
		t.Errorf("%s: %d bytes %v: something changed", what, len(b), short(b))
	}
}

// P11.3: bytes that are no frame are refused, and nothing changes.
func TestInOfNoFrame(t *testing.T) {
	x := busy(t)
	for _, b := range [][]byte{nil, {}, {0}, {1, 2, 3}, make([]byte, 7), make([]byte, 8), []byte("no frame"), make([]byte, 2000)} {
		refuses(t, "no frame", x, b)
	}
	for _, f := range [][]byte{answer(0), answer(3), answer(5), data(3, 3, "D"), data(4, 5, ""), data(9, 0, "J")} {
		for i := range f {
			refuses(t, "cut off", x, f[:i])
			for bit := range 8 {
				turned := slices.Clone(f)
				turned[i] ^= 1 << bit
				refuses(t, "a bit turned", x, turned)
			}
		}
		refuses(t, "one byte more", x, append(slices.Clone(f), 0))
		refuses(t, "two frames", x, slices.Concat(f, f))
	}
	refuses(t, "no Data with a number", x, sealed(0, 3, 3, nil))
	refuses(t, "no Data with a body", x, sealed(0, 0, 3, []byte("D")))
	refuses(t, "another kind", x, sealed(2, 3, 3, []byte("D")))
	refuses(t, "a number above 2^30", x, data(1<<30+1, 3, "D"))
	refuses(t, "an Ack above 2^30", x, data(3, 1<<30+1, "D"))
	refuses(t, "a long body", x, sealed(1, 3, 3, make([]byte, 1048577)))
	// Behind all that it goes on as if nothing had come.
	out(t, "behind", x, data(2, 3, names(2, 3)[0]), data(3, 3, names(3, 4)[0]), data(4, 3, names(4, 5)[0]))
	next(t, "behind", x, "B", "C")
}

// P11.3: an Ack above how many were sent is refused, also where so many were taken; a message with it is not held.
func TestInOfGreatAck(t *testing.T) {
	x := busy(t)
	for _, ack := range []int{6, 7, 8, 64, 1 << 20, 1<<30 - 1, 1 << 30} {
		refuses(t, "no Data", x, answer(ack))
		refuses(t, "the next message", x, data(3, ack, "D"))
		refuses(t, "one to be held", x, data(4, ack, "E"))
		refuses(t, "one that came", x, data(0, ack, "A"))
	}
	takes(t, "as many as were sent", x, answer(5))
	counts(t, "as many as were sent", x, 5, 3)
	refuses(t, "one more", x, answer(6))
	x.Out()
	takes(t, "when it was sent", x, answer(6))
	counts(t, "when it was sent", x, 6, 3)
}

// P11.3: a new end has sent nothing, so the Ack 0 alone may be.
func TestInOfAckAtFirst(t *testing.T) {
	x := of(t, 16)
	sends(t, x, "a", "b")
	for _, ack := range []int{1, 2, 3} {
		refuses(t, "not sent", x, answer(ack))
		refuses(t, "not sent", x, data(0, ack, "A"))
	}
	takes(t, "none", x, answer(0))
	out(t, "both", x, data(0, 0, "a"), data(1, 0, "b"))
	takes(t, "both", x, answer(2))
	counts(t, "both", x, 2, 0)
}

// P11.3: an Ack that is not above Sure makes no more sure, and no fewer; its message counts.
func TestInOfSmallAck(t *testing.T) {
	x := of(t, 8)
	sends(t, x, names(0, 8)...)
	x.Out()
	takes(t, "five", x, answer(5))
	for i, ack := range []int{5, 4, 3, 2, 1, 0} {
		takes(t, "not more", x, answer(ack))
		counts(t, "not more", x, 5, i)
		out(t, "no answer is owed", x)
		takes(t, "not more, with a message", x, data(i, ack, names(i, i+1)[0]))
		counts(t, "not more, with a message", x, 5, i+1)
		out(t, "an answer is owed", x, answer(i+1))
	}
	x.Tick()
	out(t, "what is not sure", x, framed(5, 8, 6)...)
	next(t, "the messages", x, names(0, 6)...)
}

// P11.3: each Ack from Sure to how many were sent makes just so many sure.
func TestInOfEachAck(t *testing.T) {
	for window := 1; window <= 16; window++ {
		for ack := range window + 1 {
			x := of(t, window)
			sends(t, x, names(0, 40)...)
			x.Out()
			takes(t, "an Ack", x, answer(ack))
			counts(t, "an Ack", x, ack, 0)
			x.Tick()
			out(t, "behind an Ack", x, framed(ack, ack+window, 0)...)
		}
	}
}

// P11.3: a number below Got is answered, and is nothing else.
func TestInOfOldNumber(t *testing.T) {
	x := of(t, 4)
	takes(t, "five", x, framed(0, 5, 0)...)
	x.Out()
	for n := range 5 {
		takes(t, "an old one", x, data(n, 0, "other"))
		counts(t, "an old one", x, 0, 5)
		out(t, "its answer", x, answer(5))
	}
	next(t, "the first that came", x, names(0, 5)...)
	takes(t, "an old one that was told", x, data(4, 0, "other"))
	next(t, "an old one that was told", x)
	out(t, "its answer", x, answer(5))
}

// P11.3: at Got it is got; at Got and 15 it is held; at Got and 16, and above, it is not. The end's own window does not matter.
func TestInOfEachNumber(t *testing.T) {
	for _, window := range []int{1, 7, 16} {
		for _, first := range []int{0, 1, 5, 100} {
			for _, far := range []int{0, 1, 2, 14, 15, 16, 17, 31, 32, 1 << 20, 1<<30 - first} {
				x := of(t, window)
				takes(t, "the first", x, framed(0, first, 0)...)
				for range first {
					x.Next()
				}
				takes(t, "one", x, data(first+far, 0, "far"))
				if far == 0 {
					next(t, "at Got", x, "far")
					continue
				}
				counts(t, "not at Got", x, 0, first)
				next(t, "not at Got", x)
				out(t, "it is answered", x, answer(first))
				// All others that are near come: what was held counts, what was not is the one that comes now.
				want := names(first, first+20)
				takes(t, "the others", x, framed(first, first+20, 0)...)
				if far < 16 {
					want[far] = "far"
				}
				counts(t, "the others", x, 0, first+20)
				next(t, "the others", x, want...)
			}
		}
	}
}

// P11.3: of one number the first message that came counts, whether it is held or got.
func TestInOfTwice(t *testing.T) {
	x := of(t, 1)
	takes(t, "twice", x, data(2, 0, "first"), data(2, 0, "second"), data(2, 0, ""), data(1, 0, ""), data(1, 0, "late"))
	counts(t, "held", x, 0, 0)
	next(t, "held", x)
	takes(t, "the missing one", x, data(0, 0, "zero"), data(0, 0, "again"), data(1, 0, "again"), data(2, 0, "again"))
	counts(t, "got", x, 0, 3)
	next(t, "got", x, "zero", "", "first")
}

// P11.3: held messages come when the missing one does, just as far as none is missing.
func TestInOfMissing(t *testing.T) {
	x := of(t, 1)
	takes(t, "all but 0 and 4", x, data(7, 0, "h"), data(3, 0, "d"), data(1, 0, "b"), data(6, 0, "g"), data(2, 0, "c"), data(5, 0, "f"), data(15, 0, "p"))
	counts(t, "0 is missing", x, 0, 0)
	out(t, "0 is missing", x, answer(0))
	takes(t, "0", x, data(0, 0, "a"))
	counts(t, "4 is missing", x, 0, 4)
	out(t, "4 is missing", x, answer(4))
	takes(t, "one that lies within reach now", x, data(19, 0, "t"))
	next(t, "4 is missing", x, "a", "b", "c", "d")
	takes(t, "4", x, data(4, 0, "e"))
	counts(t, "8 is missing", x, 0, 8)
	next(t, "8 is missing", x, "e", "f", "g", "h")
	takes(t, "8 to 14", x, framed(8, 15, 0)...)
	counts(t, "16 is missing", x, 0, 16)
	takes(t, "16 to 18", x, framed(16, 19, 0)...)
	counts(t, "none is missing", x, 0, 20)
	next(t, "all the others", x, slices.Concat(names(8, 15), []string{"p"}, names(16, 19), []string{"t"})...)
	if len(x.held) != 0 || len(x.come) != 0 {
		t.Error("what was told is kept:", x.held, x.come)
	}
}

// P11.3: whatever the order of 16 messages, they come in theirs.
func TestInOfAnyOrder(t *testing.T) {
	r := seeded(2)
	for range 300 {
		x := of(t, 1+r.IntN(16))
		for first := 0; first < 64; first += 16 {
			for i, place := range r.Perm(16) {
				n := first + place
				takes(t, "one", x, data(n, 0, names(n, n+1)[0]))
				if i%5 == 4 {
					takes(t, "again", x, data(n, 0, "again"))
				}
			}
			counts(t, "sixteen", x, 0, first+16)
			out(t, "sixteen", x, answer(first+16))
		}
		next(t, "all", x, names(0, 64)...)
	}
}

// P11.3: what is no Data brings an Ack alone: it is not answered, and no message.
func TestInOfNoData(t *testing.T) {
	x := of(t, 2)
	for range 3 {
		takes(t, "no Data", x, answer(0))
	}
	counts(t, "no Data", x, 0, 0)
	next(t, "no Data", x)
	out(t, "no Data", x)
	// Nor does it take back an answer that is owed.
	takes(t, "a message, and no Data", x, data(0, 0, "A"), answer(0))
	out(t, "the answer", x, answer(1))
}

// P11.3: Next tells each message once, in order, between others that come, too; it changes nothing else.
func TestNext(t *testing.T) {
	x := of(t, 2)
	sends(t, x, "a")
	told := 0
	for n, name := range names(0, 50) {
		takes(t, "one", x, data(n, 0, name))
		if n%3 == 2 {
			for range 2 {
				body, ok := x.Next()
				if !ok || string(body) != names(told, told+1)[0] {
					t.Fatal("next:", told, body, ok)
				}
				told++
			}
		}
	}
	counts(t, "some told", x, 0, 50)
	next(t, "the others", x, names(told, 50)...)
	counts(t, "all told", x, 0, 50)
	out(t, "the message, with the Ack", x, data(0, 50, "a"))
	for range 3 {
		next(t, "all told", x)
	}
}

// P11.3: the longest message comes, held or not.
func TestInOfLong(t *testing.T) {
	long := bytesOf(3, 1048576)
	x := of(t, 1)
	takes(t, "long ones", x, sealed(1, 1, 0, long), sealed(1, 0, 0, long[:1048575]))
	next(t, "long ones", x, string(long[:1048575]), string(long))
	refuses(t, "one byte more", x, sealed(1, 2, 0, append(bytes.Clone(long), 1)))
}

// P11.3: at the last numbers that a frame can have nothing goes wrong.
func TestInOfLastNumbers(t *testing.T) {
	const all = 1 << 30
	x := late(t, 1, all-16)
	takes(t, "the last", x, data(all-1, all-16, "last"))
	refuses(t, "an Ack of none", x, data(all-16, all-15, "first"))
	for n := all - 16; n < all-1; n++ {
		takes(t, "one", x, data(n, 0, "one"))
	}
	counts(t, "all", x, all-16, all)
	out(t, "all", x, answer(all))
}
