package wire

import (
	"bytes"
	"math"
	"slices"
	"testing"

	"windbreak/api"
)

// written are messages of each kind, and their bytes written out.
func written() []struct {
	m    api.Msg
	want []byte
} {
	return []struct {
		m    api.Msg
		want []byte
	}{
		{api.Msg{Kind: api.MsgSetup, A: 4, B: 2, Nats: []api.Nat{{17947}}}, []byte{1, 4, 2, 0, 0, 0, 1, 2, 70, 27}},
		{api.Msg{Kind: api.MsgSetup, Nats: []api.Nat{nil}}, []byte{1, 0, 0, 0, 0, 0, 1, 0}},
		{api.Msg{Kind: api.MsgReady, A: 4, B: 2}, []byte{2, 4, 2, 0, 0, 0, 0}},
		{api.Msg{Kind: api.MsgGrads, A: 3, Nats: []api.Nat{{5}, nil, {0, 1}}}, []byte{3, 3, 0, 0, 0, 0, 3, 1, 5, 0, 9, 1, 0, 0, 0, 0, 0, 0, 0, 0}},
		{api.Msg{Kind: api.MsgAsk, B: 1, Rows: []int{0, 3}}, []byte{4, 0, 1, 0, 0, 2, 0, 3, 0}},
		{api.Msg{Kind: api.MsgHist, A: 1, B: 2, Ids: []int{300, 3}, Nats: []api.Nat{{7}, {0x0102030405060708}}}, []byte{5, 1, 2, 0, 2, 172, 2, 3, 0, 2, 1, 7, 8, 1, 2, 3, 4, 5, 6, 7, 8}},
		{api.Msg{Kind: api.MsgChoose, A: 1, B: 2, Ids: []int{9, 9}}, []byte{6, 1, 2, 0, 2, 9, 9, 0, 0}},
		{api.Msg{Kind: api.MsgChosen, A: 1, B: 2, C: 128, Rows: []int{127, 1 << 30}}, []byte{7, 1, 2, 128, 1, 0, 2, 127, 128, 128, 128, 128, 4, 0}},
		{api.Msg{Kind: api.MsgQuery, A: 1 << 30, B: 127}, []byte{8, 128, 128, 128, 128, 4, 127, 0, 0, 0, 0}},
		{api.Msg{Kind: api.MsgAnswer, A: 5, B: 6, C: 1}, []byte{9, 5, 6, 1, 0, 0, 0}},
		{api.Msg{Kind: api.MsgDone, A: 300}, []byte{10, 172, 2, 0, 0, 0, 0, 0}},
		{api.Msg{Kind: api.MsgAbort, A: 20}, []byte{11, 20, 0, 0, 0, 0, 0}},
	}
}

// P12.1 and P12.2: messages of each kind, and their bytes, written out.
func TestWritten(t *testing.T) {
	for _, c := range written() {
		if got, err := Encode(c.m); err != api.OK || !bytes.Equal(got, c.want) {
			t.Errorf("%v: error %d, told %v, asked %v", c.m, err, got, c.want)
		}
		accepts(t, "written out", c.want, c.m)
	}
}

// The document's examples.
func TestExamples(t *testing.T) {
	if b, err := Encode(api.Msg{Kind: api.MsgReady, A: 4, B: 2}); err != api.OK || !bytes.Equal(b, []byte{2, 4, 2, 0, 0, 0, 0}) {
		t.Error("ready:", b, err)
	}
	if b, err := Encode(api.Msg{Kind: api.MsgAsk, A: 0, B: 1, Rows: []int{0, 3}}); err != api.OK || !bytes.Equal(b, []byte{4, 0, 1, 0, 0, 2, 0, 3, 0}) {
		t.Error("ask:", b, err)
	}
}

// longest is a kind's message of the most bytes.
func longest(kind int) api.Msg {
	m := api.Msg{Kind: kind}
	for _, column := range columns(kind) {
		switch column {
		case 'I':
			m.Ids = slices.Repeat([]int{1 << 30}, 16384)
		case 'R':
			m.Rows = counted(16384)
			for i := range m.Rows {
				m.Rows[i] += 1<<30 - 16383
			}
		case 'N':
			m.Nats = slices.Repeat([]api.Nat{filledNat(4, math.MaxUint64)}, 16384)
		default:
			m = with(m, column, 1<<30)
		}
	}
	switch kind {
	case 1:
		m.Nats = m.Nats[:1]
	case 9:
		m.C = 1
	}
	return m
}

// P12.1: the longest messages of each kind may be: none of them has more than 1048576 bytes.
func TestLongest(t *testing.T) {
	// A number of 0 has 1 byte, one of 2^30 has 5, a count of 16384 has 3, a Nat 33.
	lengths := [...]int{1: 48, 2: 15, 3: 13 + 33*16384, 4: 17 + 5*16384, 5: 19 + 38*16384, 6: 17 + 5*16384, 7: 21 + 5*16384, 8: 15, 9: 15, 10: 11, 11: 11}
	for kind := 1; kind <= lastKind; kind++ {
		m := longest(kind)
		mayBe(t, "the longest", m)
		if b, err := Encode(m); err != api.OK || len(b) != lengths[kind] || len(b) > 1048576 {
			t.Error("kind", kind, "error", err, "bytes", len(b), "asked", lengths[kind])
		}
	}
}

// P12.1: messages at many edges have the bytes that another reckoning has.
func TestEncodeOfMany(t *testing.T) {
	for _, m := range messages() {
		mayBe(t, "many", m)
	}
	r := seeded(3)
	for kind := 1; kind <= lastKind; kind++ {
		for range 20 {
			mayBe(t, "long lists", anyRight(r, kind, 1000))
		}
	}
}
