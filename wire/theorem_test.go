package wire

import (
	"bytes"
	"fmt"
	"testing"

	"windbreak/api"
)

// comesBack asks of a message that what was encoded is decoded as it was, and tells its bytes.
func comesBack(t testing.TB, m api.Msg) []byte {
	t.Helper()
	b, err := Encode(m)
	if err != api.OK {
		t.Fatalf("%v: error %d", brief(m), err)
	}
	accepts(t, "encoded", b, m)
	return b
}

// textOf tells a message so that two have the same text just if they are the same, whether a list is nil or empty.
func textOf(m api.Msg) string { return fmt.Sprint(m) }

// P12.3: many messages of each kind are decoded as they were, and two have the same bytes just if they are the same.
func TestComesBack(t *testing.T) {
	r := seeded(5)
	for kind := 1; kind <= lastKind; kind++ {
		bytesOf, textsOf := map[string]string{}, map[string]string{}
		check := func(m api.Msg) {
			b, text := string(comesBack(t, m)), textOf(m)
			if other, ok := textsOf[b]; ok && other != text {
				t.Error("the same bytes:", text, other)
			}
			if other, ok := bytesOf[text]; ok && other != b {
				t.Error("other bytes:", text)
			}
			textsOf[b], bytesOf[text] = text, b
		}
		for i := range 4000 {
			m := anyRight(r, kind, i%20)
			check(m)
			for range 4 {
				if n := spoilt(r, m); allowed(n) && n.Kind == kind {
					check(n)
				}
			}
		}
		if len(textsOf) < 2000 {
			t.Error("kind", kind, "how many:", len(textsOf))
		}
	}
}

// P12.3: messages with few and small things, each held against each other one, of all kinds.
func TestSameBytes(t *testing.T) {
	var all []api.Msg
	lists := [][]int{nil, {}, {0}, {1}, {0, 1}, {1, 0}, {0, 0}, {128}}
	nats := [][]api.Nat{nil, {}, {nil}, {{}}, {{1}}, {nil, nil}, {{1}, nil}, {nil, {1}}, {{0, 1}}, {{256}}}
	for kind := 1; kind <= lastKind; kind++ {
		for n := range 27 {
			for _, list := range lists {
				for _, nat := range nats {
					for _, m := range []api.Msg{{Ids: list, Nats: nat}, {Rows: list, Nats: nat}} {
						m.Kind, m.A, m.B, m.C = kind, n%3, n/3%3, n/9
						if checkMsg(t, "small", m) {
							all = append(all, m)
						}
					}
				}
			}
		}
	}
	var told [][]byte
	for _, m := range all {
		told = append(told, comesBack(t, m))
	}
	pairs := 0
	for i, m := range all {
		for j, n := range all[:i] {
			if bytes.Equal(told[i], told[j]) != same(m, n) {
				t.Fatal("the same bytes, or the same messages, and not both:", m, n)
			}
			pairs++
		}
	}
	if pairs < 100000 {
		t.Error("how many pairs:", pairs)
	}
}

// P12.3: a message of each length of its lists comes back.
func TestEachLength(t *testing.T) {
	r := seeded(6)
	for count := range 300 {
		comesBack(t, api.Msg{Kind: 6, A: count, Ids: numbersOf(r, count+1)})
		comesBack(t, api.Msg{Kind: 4, B: count, Rows: rowsOf(r, count)})
		comesBack(t, api.Msg{Kind: 3, Nats: natsOf(r, count)})
		comesBack(t, api.Msg{Kind: 5, Ids: numbersOf(r, count), Nats: natsOf(r, count)})
	}
	for kind := 1; kind <= lastKind; kind++ {
		comesBack(t, longest(kind))
		comesBack(t, anyRight(r, kind, 16383))
	}
}

// P12.3: what any bytes are decoded as, encoded again, are these bytes.
func TestEncodedAgain(t *testing.T) {
	r := seeded(7)
	many := 0
	for range 200000 {
		b := make([]byte, 7+r.IntN(6))
		b[0] = byte(1 + r.IntN(lastKind))
		for i := range b[1:] {
			b[1+i] = []byte{0, 0, 0, 0, 0, 0, 1, 2, 3, byte(r.Uint32())}[r.IntN(10)]
		}
		m, err := Decode(b)
		if err != api.OK {
			continue
		}
		many++
		if again, err := Encode(m); err != api.OK || !bytes.Equal(again, b) {
			t.Error("encoded again:", b, again, err)
		}
	}
	if many < 3000 {
		t.Error("how many were messages:", many)
	}
}
