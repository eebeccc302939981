package frame

import (
	"bytes"
	"encoding/binary"
	"hash/crc32"
	"math"
	"math/rand/v2"
	"slices"
	"testing"

	"windbreak/api"
)

// ownSum is what the sum of bytes and of their own sum's bytes, the lowest first, always is.
const ownSum = 558161692

// seeded is a source that is the same for the same seed.
func seeded(seed uint64) *rand.Rand { return rand.New(rand.NewPCG(seed, 10)) }

// bytesOf are so many bytes, of which many are 0, 1, 128 or 255; they are the same for the same seed.
func bytesOf(seed uint64, count int) []byte {
	r := seeded(seed)
	b := make([]byte, count)
	for i := range b {
		b[i] = []byte{0, 1, 127, 128, 129, 255, byte(r.Uint32()), byte(r.Uint32())}[r.IntN(8)]
	}
	return b
}

// short is the beginning of bytes, enough to tell them.
func short(b []byte) []byte { return b[:min(len(b), 24)] }

// bitSum is the sum by the document's own words, bit by bit, in numbers that do not wrap round.
func bitSum(b []byte) uint32 {
	r := uint64(math.MaxUint32)
	for _, x := range b {
		r ^= uint64(x)
		for range 8 {
			odd := r%2 == 1
			r /= 2
			if odd {
				r ^= 3988292384
			}
		}
	}
	return uint32(r ^ math.MaxUint32)
}

// sealed is a frame's parts, and behind them the sum that another library tells of them.
func sealed(parts ...[]byte) []byte {
	b := slices.Concat(parts...)
	return binary.BigEndian.AppendUint32(b, crc32.ChecksumIEEE(b))
}

// number is a number's code by another library.
func number(n uint64) []byte { return binary.AppendUvarint(nil, n) }

// some is the code of bytes by another library.
func some(b []byte) []byte { return append(number(uint64(len(b))), b...) }

// encoded is a frame that may be, as bytes, by other libraries.
func encoded(f api.Frame) []byte {
	kind := []byte{0}
	if f.Data {
		kind[0] = 1
	}
	return sealed(kind, number(uint64(f.Seq)), number(uint64(f.Ack)), some(f.Body))
}

// allowed is whether a frame may be, by the document's words.
func allowed(f api.Frame) bool {
	switch {
	case f.Seq < 0, f.Seq > 1<<30, f.Ack < 0, f.Ack > 1<<30, len(f.Body) > 1048576:
		return false
	case f.Data:
		return true
	}
	return f.Seq == 0 && len(f.Body) == 0
}

// decoded is the frame of which bytes are the code, by other libraries: what could be read of them is told only if it may be, and its code is these bytes.
func decoded(b []byte) (api.Frame, bool) {
	if len(b) == 0 {
		return api.Frame{}, false
	}
	rest := b[1:]
	var l [3]uint64
	for i := range l {
		n, used := binary.Uvarint(rest)
		if used <= 0 || n > 1<<31 {
			return api.Frame{}, false
		}
		l[i], rest = n, rest[used:]
	}
	if uint64(len(rest)) < l[2] {
		return api.Frame{}, false
	}
	f := api.Frame{Data: b[0] == 1, Seq: int(l[0]), Ack: int(l[1]), Body: rest[:l[2]]}
	if !allowed(f) || !bytes.Equal(encoded(f), b) {
		return api.Frame{}, false
	}
	return f, true
}

func same(f, g api.Frame) bool {
	return f.Data == g.Data && f.Seq == g.Seq && f.Ack == g.Ack && bytes.Equal(f.Body, g.Body)
}

// isZero is whether a frame is the zero value, as it must be beside an error.
func isZero(f api.Frame) bool { return same(f, api.Frame{}) && f.Body == nil }

// checkEncode asks of a frame that its Encode is as it must be.
func checkEncode(t testing.TB, f api.Frame) {
	t.Helper()
	got, err := Encode(f)
	if !allowed(f) {
		if err != api.ErrArg || got != nil {
			t.Errorf("may not be: %v %d %d, %d bytes: error %d, told %v", f.Data, f.Seq, f.Ack, len(f.Body), err, short(got))
		}
		return
	}
	if err != api.OK || !bytes.Equal(got, encoded(f)) {
		t.Errorf("%v %d %d, %d bytes: error %d, told %v, asked %v", f.Data, f.Seq, f.Ack, len(f.Body), err, short(got), short(encoded(f)))
	}
}

// checkDecode asks of bytes that their Decode is as it must be, and tells whether they are a frame.
func checkDecode(t testing.TB, b []byte) bool {
	t.Helper()
	want, ok := decoded(b)
	got, err := Decode(b)
	if !ok {
		if err != api.ErrFrame || !isZero(got) {
			t.Errorf("%d bytes %v: error %d, told %v %d %d, %d bytes", len(b), short(b), err, got.Data, got.Seq, got.Ack, len(got.Body))
		}
		return false
	}
	if err != api.OK || !same(got, want) {
		t.Errorf("%d bytes %v: error %d, told %v %d %d, %d bytes", len(b), short(b), err, got.Data, got.Seq, got.Ack, len(got.Body))
	}
	return true
}

// refuses asks of bytes that they are no frame.
func refuses(t testing.TB, what string, b []byte) {
	t.Helper()
	if got, err := Decode(b); err != api.ErrFrame || !isZero(got) {
		t.Errorf("%s: %d bytes %v: error %d, told %v %d %d, %d bytes", what, len(b), short(b), err, got.Data, got.Seq, got.Ack, len(got.Body))
	}
}

// accepts asks of bytes that they are this frame.
func accepts(t testing.TB, what string, b []byte, want api.Frame) {
	t.Helper()
	if got, err := Decode(b); err != api.OK || !same(got, want) {
		t.Errorf("%s: %d bytes %v: error %d, told %v %d %d, %d bytes", what, len(b), short(b), err, got.Data, got.Seq, got.Ack, len(got.Body))
	}
}

// seqs are numbers that a Seq or an Ack may be: the least, the greatest, and where a code gets one digit more.
func seqs() []int {
	l := []int{0, 1, 2, 127, 128, 129, 255, 256, 300, 16383, 16384, 1<<21 - 1, 1 << 21, 1<<28 - 1, 1 << 28, 1<<30 - 1, 1 << 30}
	for bit := range 30 {
		l = append(l, 1<<bit|(0x2aaaaaaa&(1<<bit-1)))
	}
	return l
}

// wrongs are numbers that none of them may be: those that would be right if they were cut to 32 bits among them.
func wrongs() []int {
	return []int{1<<30 + 1, 1<<30 + 2, 1<<31 - 1, 1 << 31, 1<<32 - 1, 1 << 32, 1<<32 + 5, 1<<62 + 1, math.MaxInt - 1, math.MaxInt, -1, -2, -(1 << 30), -(1 << 31), -(1 << 32), -(1 << 32) + 5, math.MinInt + 1, math.MinInt}
}

// counts are how many bytes a Body has.
func counts() []int {
	return []int{0, 1, 2, 3, 4, 5, 8, 31, 126, 127, 128, 129, 255, 256, 300, 1000, 16383, 16384, 16385}
}

// frames are many that may be: of each edge, and others.
func frames() []api.Frame {
	var l []api.Frame
	for i, n := range seqs() {
		l = append(l, api.Frame{Ack: n}, api.Frame{Data: true, Seq: n}, api.Frame{Data: true, Ack: n}, api.Frame{Data: true, Seq: n, Ack: 1<<30 - n, Body: bytesOf(uint64(i), i)})
	}
	for _, count := range counts() {
		l = append(l, api.Frame{Data: true, Seq: count, Ack: 3 * count, Body: bytesOf(uint64(count), count)})
	}
	r := seeded(1)
	for range 300 {
		f := api.Frame{Data: true, Seq: r.IntN(1<<30 + 1), Ack: r.IntN(1<<30+1) >> r.IntN(31)}
		f.Body = bytesOf(r.Uint64(), r.IntN(60))
		l = append(l, f, api.Frame{Ack: f.Ack})
	}
	return l
}
