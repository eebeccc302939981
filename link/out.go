package link

import (
	"iter"

	"windbreak/api"
	"windbreak/frame"
)

// Out is the frames that are to go now.
func (x *End) Out() [][]byte {
	if !x.isMade() {
		return nil
	}
	var out [][]byte
	for n := range x.due() {
		out = append(out, x.encoded(api.Frame{Data: true, Seq: n, Body: x.queue[n-x.sure]}))
		x.sent = max(x.sent, n+1)
	}
	if len(out) == 0 && x.owes {
		out = append(out, x.encoded(api.Frame{}))
	}
	x.owes, x.tick = false, false // each of the frames is an answer too
	return out
}

// due are the numbers of the messages that are to go now, rising.
func (x *End) due() iter.Seq[int] {
	first := x.sent
	if x.tick {
		first = x.sure
	}
	end := min(x.taken(), x.sure+x.window)
	return func(yield func(n int) bool) {
		for n := first; n < end; n++ {
			if !yield(n) {
				return
			}
		}
	}
}

// encoded is a frame, with how many messages came, as bytes.
func (x *End) encoded(f api.Frame) []byte {
	f.Ack = x.got
	b, _ := frame.Encode(f) // no body that is too long was taken, and to get more than MaxSeq messages takes more bytes than the bound of all promises: there is no error
	return b
}
