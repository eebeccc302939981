package link

import (
	"slices"

	"windbreak/api"
	"windbreak/frame"
)

// In takes a frame that came.
func (x *End) In(b []byte) api.Errno {
	f, err := frame.Decode(b)
	if !x.isMade() || err != api.OK || f.Ack > x.sent {
		return api.ErrFrame
	}
	x.confirm(f.Ack)
	if f.Data {
		x.owes = true // also of one that came ahead: the answer to that may be lost
		x.hold(f.Seq, f.Body)
		x.get()
	}
	return api.OK
}

// Next is the next message that came; false: there is none.
func (x *End) Next() ([]byte, bool) {
	if !x.isMade() || len(x.come) == 0 {
		return nil, false
	}
	body := x.come[0]
	x.come[0] = nil // what was told is the caller's own, and is not kept
	x.come = x.come[1:]
	return body, true
}

// confirm lets go the messages that the other end says it got. A frame that is late may say fewer than are sure.
func (x *End) confirm(ack int) {
	if ack > x.sure {
		x.queue = slices.Delete(x.queue, 0, ack-x.sure)
		x.sure = ack
	}
}

// hold keeps a message that is not got yet, if its number is near enough.
func (x *End) hold(n int, body []byte) {
	if n < x.got || n >= x.got+api.MaxWindow {
		return
	}
	if _, ok := x.held[n]; !ok {
		x.held[n] = body
	}
}

// get takes the held messages that are next in order.
func (x *End) get() {
	for {
		body, ok := x.held[x.got]
		if !ok {
			return
		}
		delete(x.held, x.got)
		x.come = append(x.come, body)
		x.got++
	}
}
