package link

import (
	"bytes"
	"encoding/binary"
	"hash/crc32"
	"math/rand/v2"
	"slices"
	"testing"

	"windbreak/api"
)

// seeded is a source that is the same for the same seed.
func seeded(seed uint64) *rand.Rand { return rand.New(rand.NewPCG(seed, 11)) }

// bytesOf are so many bytes; they are the same for the same seed.
func bytesOf(seed uint64, count int) []byte {
	r := seeded(seed)
	b := make([]byte, count)
	for i := range b {
		b[i] = byte(r.Uint32())
	}
	return b
}

// short is the beginning of bytes, enough to tell them.
func short(b []byte) []byte { return b[:min(len(b), 24)] }

// sealed is a frame's parts, and behind them the sum that another library tells of them.
func sealed(kind byte, seq, ack int, body []byte) []byte {
	b := []byte{kind}
	for _, n := range []int{seq, ack, len(body)} {
		b = binary.AppendUvarint(b, uint64(n))
	}
	b = append(b, body...)
	return binary.BigEndian.AppendUint32(b, crc32.ChecksumIEEE(b))
}

// data is a message's frame as bytes, answer that of a frame that is none, by other libraries.
func data(seq, ack int, body string) []byte { return sealed(1, seq, ack, []byte(body)) }

func answer(ack int) []byte { return sealed(0, 0, ack, nil) }

// parts are those of a frame's bytes that one of the above made.
func parts(b []byte) (kind byte, seq, ack int, body []byte) {
	kind, b = b[0], b[1:len(b)-4]
	var l [3]int
	for i := range l {
		n, used := binary.Uvarint(b)
		l[i], b = int(n), b[used:]
	}
	return kind, l[0], l[1], b
}

func sameFrames(x, y [][]byte) bool { return slices.EqualFunc(x, y, bytes.Equal) }

// of is an end with a window that may be.
func of(t testing.TB, window int) *End {
	t.Helper()
	x, err := New(window)
	if err != api.OK || x == nil {
		t.Fatal("window", window, "error", err)
	}
	return x
}

// sends lets an end take messages, of which none may be refused.
func sends(t testing.TB, x *End, bodies ...string) {
	t.Helper()
	for _, body := range bodies {
		if err := x.Send([]byte(body)); err != api.OK {
			t.Fatalf("send of %q: error %d", body, err)
		}
	}
}

// out asks of an end that its Out is just these frames.
func out(t testing.TB, what string, x *End, want ...[]byte) {
	t.Helper()
	if got := x.Out(); !sameFrames(got, want) {
		t.Errorf("%s: out %v, asked %v", what, got, want)
	}
}

// takes asks of an end that it takes these frames.
func takes(t testing.TB, what string, x *End, frames ...[]byte) {
	t.Helper()
	for i, b := range frames {
		if err := x.In(b); err != api.OK {
			t.Errorf("%s: frame %d, %v: error %d", what, i, short(b), err)
		}
	}
}

// next asks of an end that it tells just these messages, and none behind them.
func next(t testing.TB, what string, x *End, want ...string) {
	t.Helper()
	for _, w := range want {
		if body, ok := x.Next(); !ok || string(body) != w {
			t.Errorf("%s: next %q %v, asked %q", what, short(body), ok, w)
		}
	}
	if body, ok := x.Next(); ok || body != nil {
		t.Errorf("%s: one more: %q %v", what, short(body), ok)
	}
}

// counts asks of an end how many are sure, and how many it got.
func counts(t testing.TB, what string, x *End, sure, got int) {
	t.Helper()
	if x.Sure() != sure || x.Got() != got {
		t.Errorf("%s: sure %d, got %d, asked %d, %d", what, x.Sure(), x.Got(), sure, got)
	}
}

// names are texts, one for each number from first on, below end.
func names(first, end int) []string {
	var l []string
	for n := first; n < end; n++ {
		l = append(l, string(binary.AppendUvarint([]byte("m"), uint64(n))))
	}
	return l
}

// framed are the frames of the messages of names, with an Ack.
func framed(first, end, ack int) [][]byte {
	var l [][]byte
	for i, name := range names(first, end) {
		l = append(l, data(first+i, ack, name))
	}
	return l
}

// copied is all that an end knows, in memory of its own.
func copied(x *End) End {
	y := *x
	y.queue, y.come = nil, nil
	y.held = map[int][]byte{}
	for _, b := range x.queue {
		y.queue = append(y.queue, bytes.Clone(b))
	}
	for _, b := range x.come {
		y.come = append(y.come, bytes.Clone(b))
	}
	for n, b := range x.held {
		y.held[n] = bytes.Clone(b)
	}
	return y
}
