package wire

import (
	"bytes"
	"math"
	"slices"
	"testing"

	"windbreak/api"
)

// P12.2: none at all, and all that is too short to be a message.
func TestDecodeOfTooFew(t *testing.T) {
	for _, b := range [][]byte{nil, {}, make([]byte, 0, 9)} {
		refuses(t, "none at all", b)
	}
	for count := range 7 {
		for x := range 256 {
			refuses(t, "few bytes", bytes.Repeat([]byte{byte(x)}, count))
		}
		for kind := 1; kind <= lastKind; kind++ {
			refuses(t, "parts missing", append([]byte{byte(kind)}, make([]byte, count)...)[:count])
		}
	}
}

// P12.2: a message that is cut off is none, wherever it is cut; nor is the longest one.
func TestDecodeOfCutOff(t *testing.T) {
	for _, m := range messages() {
		b := encoded(m)
		for end := range b {
			refuses(t, "cut off", b[:end])
		}
	}
	for kind := 1; kind <= lastKind; kind++ {
		b := encoded(longest(kind))
		for end := range b {
			if end < 40 || end > len(b)-40 || end%30011 == 0 {
				refuses(t, "cut off", b[:end])
			}
		}
	}
}

// P12.2: one byte too many behind, whichever it is, or more of them.
func TestDecodeOfTooMany(t *testing.T) {
	for kind := 1; kind <= lastKind; kind++ {
		for _, m := range []api.Msg{least(kind), full(kind), longest(kind)} {
			b := encoded(m)
			for x := range 256 {
				if x < 3 || len(b) < 1000 {
					refuses(t, "behind", append(slices.Clone(b), byte(x)))
				}
			}
			refuses(t, "twice", slices.Concat(b, b))
			refuses(t, "many behind", append(slices.Clone(b), make([]byte, 1<<20)...))
		}
	}
	for _, m := range messages() {
		for _, tail := range [][]byte{{0}, {1}, {128}, {255}, make([]byte, 7)} {
			refuses(t, "behind", append(encoded(m), tail...))
		}
	}
}

// spot is one number's code in a message: the bytes ahead of it, the number, the bytes behind.
type spot struct {
	what   string
	ahead  []byte
	n      uint64
	behind []byte
}

// spots are all the places of two messages where a number's code stands.
func spots() []spot {
	var l []spot
	for _, message := range []struct {
		names   []string
		numbers []uint64
	}{
		{[]string{"the kind", "A", "B", "C", "how many Ids", "an Id", "an Id", "how many Rows", "how many Nats", "how long a Nat is", "", "how long a Nat is", "", ""}, []uint64{5, 300, 0, 0, 2, 127, 0, 0, 2, 1, 7, 2, 1, 0}},
		{[]string{"the kind", "A", "B", "C", "how many Ids", "how many Rows", "a Row", "a Row", "a Row", "how many Nats"}, []uint64{7, 0, 128, 1 << 30, 0, 3, 0, 127, 1 << 30, 0}},
		{[]string{"the kind", "A", "B", "C", "how many Ids", "how many Rows", "how many Nats", "how long a Nat is"}, []uint64{1, 0, 0, 0, 0, 0, 1, 0}},
	} {
		for i, name := range message.names {
			if name != "" {
				l = append(l, spot{name, codes(message.numbers[:i]...), message.numbers[i], codes(message.numbers[i+1:]...)})
			}
		}
	}
	return l
}

// needless is a number's code with a needless digit 0 behind, or more of them.
func needless(n uint64, zeros int) []byte {
	b := codes(n)
	b[len(b)-1] += 128
	return append(append(b, bytes.Repeat([]byte{128}, zeros-1)...), 0)
}

// P12.2: a needless digit, wherever a number stands.
func TestDecodeOfNeedless(t *testing.T) {
	for _, s := range spots() {
		if b := slices.Concat(s.ahead, codes(s.n), s.behind); !checkDecode(t, s.what, b) {
			t.Error("no message:", s.what, b)
		}
		for zeros := 1; zeros <= 11; zeros++ {
			refuses(t, s.what, slices.Concat(s.ahead, needless(s.n, zeros), s.behind))
		}
	}
}

// P12.2: a number that is too great, wherever it stands; those that would be right if they were cut off to fewer bits among them.
func TestDecodeOfGreatNumbers(t *testing.T) {
	for _, s := range spots() {
		for _, n := range []uint64{1<<30 + 1, 1<<30 + 2, 1 << 31, 1 << 32, 1<<32 + s.n, 1<<62 + s.n, 1<<63 - 1, 1 << 63, 1<<63 + s.n, math.MaxUint64 - 1, math.MaxUint64} {
			refuses(t, s.what, slices.Concat(s.ahead, codes(n), s.behind))
		}
		for _, code := range [][]byte{append(bytes.Repeat([]byte{128}, 9), 2), bytes.Repeat([]byte{255}, 40), append(bytes.Repeat([]byte{255}, 9), 127)} {
			refuses(t, s.what, slices.Concat(s.ahead, code, s.behind))
		}
	}
}

// P12.2: a count above 16384, with as many things behind as it says, or with none.
func TestDecodeOfGreatCounts(t *testing.T) {
	for _, count := range []int{16384, 16385, 16386, 1 << 15, 1 << 16, 1 << 19} {
		check := func(m api.Msg) {
			t.Helper()
			if b := encoded(m); count > 16384 {
				refuses(t, "too many", b)
			} else {
				accepts(t, "many", b, m)
			}
		}
		check(api.Msg{Kind: 6, Ids: make([]int, count)})
		check(api.Msg{Kind: 4, Rows: counted(count)})
		check(api.Msg{Kind: 3, Nats: make([]api.Nat, count)})
		check(api.Msg{Kind: 5, Ids: make([]int, count), Nats: make([]api.Nat, count)})
		for _, kind := range []byte{3, 4, 5, 6, 7} {
			refuses(t, "no Ids behind", slices.Concat([]byte{kind, 0, 0, 0}, codes(uint64(count)), []byte{0, 0}))
			refuses(t, "no Rows behind", slices.Concat([]byte{kind, 0, 0, 0, 0}, codes(uint64(count)), []byte{0}))
			refuses(t, "no Nats behind", slices.Concat([]byte{kind, 0, 0, 0, 0, 0}, codes(uint64(count))))
		}
	}
}

// P12.2: a count that says one thing more than there is, or one fewer.
func TestDecodeOfWrongCounts(t *testing.T) {
	for _, c := range []struct {
		ahead, things, behind []byte
		count                 uint64
	}{
		{[]byte{6, 1, 2, 0}, []byte{3, 4, 5}, []byte{0, 0}, 3},
		{[]byte{4, 1, 2, 0, 0}, []byte{3, 4, 5}, []byte{0}, 3},
		{[]byte{3, 1, 0, 0, 0, 0}, []byte{1, 9, 0, 2, 8, 7}, nil, 3},
		{[]byte{3, 1, 0, 0, 0, 0, 1}, []byte{9, 8, 7}, nil, 3},
	} {
		if !checkDecode(t, "as many as there are", slices.Concat(c.ahead, codes(c.count), c.things, c.behind)) {
			t.Error("no message:", c)
		}
		for _, says := range []uint64{0, 1, c.count - 1, c.count + 1, c.count + 2, 30, 127, 128, 16384} {
			checkDecode(t, "another count", slices.Concat(c.ahead, codes(says), c.things, c.behind))
		}
		refuses(t, "one fewer", slices.Concat(c.ahead, codes(c.count-1), c.things, c.behind))
		refuses(t, "one more", slices.Concat(c.ahead, codes(c.count+1), c.things, c.behind))
	}
}

// P12.2: a Nat with a needless byte 0 ahead, or more of them, wherever it stands; one of 32 bytes, and of one more.
func TestDecodeOfNeedlessBytes(t *testing.T) {
	for _, length := range []int{0, 1, 2, 7, 8, 9, 16, 30, 31, 32} {
		digits := bytes.Repeat([]byte{7}, length)
		for zeros := range 35 {
			b := append(make([]byte, zeros), digits...)
			check := func(what string, ahead, behind []byte, m api.Msg) {
				t.Helper()
				all := slices.Concat(ahead, someCode(b), behind)
				if zeros > 0 {
					refuses(t, what, all)
				} else {
					accepts(t, what, all, m)
				}
			}
			a := natOf(b)
			check("a key", []byte{1, 0, 0, 0, 0, 0, 1}, nil, api.Msg{Kind: 1, Nats: []api.Nat{a}})
			check("the first", []byte{3, 0, 0, 0, 0, 0, 2}, []byte{1, 5}, api.Msg{Kind: 3, Nats: []api.Nat{a, {5}}})
			check("the last", []byte{5, 0, 0, 0, 2, 4, 4, 0, 2, 0}, nil, api.Msg{Kind: 5, Ids: []int{4, 4}, Nats: []api.Nat{nil, a}})
		}
	}
	for _, length := range []int{33, 34, 40, 64, 127, 128, 512, 513, 5000} {
		for _, first := range []byte{0, 1, 255} {
			b := append([]byte{first}, bytes.Repeat([]byte{7}, length-1)...)
			refuses(t, "a long key", append([]byte{1, 0, 0, 0, 0, 0, 1}, someCode(b)...))
			refuses(t, "a long Nat", append([]byte{3, 0, 0, 0, 0, 0, 1}, someCode(b)...))
		}
	}
}

// P12.2: right parts of messages that may not be, written out.
func TestDecodeOfNone(t *testing.T) {
	for _, b := range [][]byte{
		{0, 0, 0, 0, 0, 0, 0},
		{12, 0, 0, 0, 0, 0, 0},
		{1, 4, 2, 0, 0, 0, 0},
		{1, 4, 2, 0, 0, 0, 2, 1, 5, 1, 6},
		{2, 4, 2, 1, 0, 0, 0},
		{2, 4, 2, 0, 1, 0, 0, 0},
		{2, 4, 2, 0, 0, 1, 0, 0},
		{2, 4, 2, 0, 0, 0, 1, 0},
		{3, 4, 1, 0, 0, 0, 0},
		{4, 0, 1, 0, 0, 2, 3, 3, 0},
		{4, 0, 1, 0, 0, 2, 3, 0, 0},
		{5, 1, 2, 0, 1, 5, 0, 0},
		{5, 1, 2, 0, 0, 0, 1, 1, 5},
		{5, 1, 2, 0, 1, 5, 0, 2, 1, 5, 1, 5},
		{6, 1, 2, 0, 0, 0, 0},
		{7, 1, 2, 3, 0, 2, 4, 4, 0},
		{8, 1, 2, 1, 0, 0, 0},
		{9, 1, 2, 2, 0, 0, 0},
		{10, 1, 1, 0, 0, 0, 0},
		{11, 1, 0, 1, 0, 0, 0},
	} {
		refuses(t, "may not be", b)
	}
}

// P12.2: all bytes of some length that are made of the telling ones: just the codes of messages are messages.
func TestDecodeOfAll(t *testing.T) {
	telling := []byte{0, 1, 2, 128}
	var told [2]int
	for kind := range 13 {
		for count := range 9 {
			for n := range 1 << (2 * count) {
				b := []byte{byte(kind)}
				for i := range count {
					b = append(b, telling[n>>(2*i)&3])
				}
				if checkDecode(t, "all", b) {
					told[1]++
				} else {
					told[0]++
				}
			}
		}
	}
	if told[0] < 500000 || told[1] < 1000 {
		t.Error("how many were none, and how many messages:", told)
	}
}

// P12.2: any bytes, and messages with some bytes put, taken or moved.
func TestDecodeOfAny(t *testing.T) {
	r := seeded(4)
	all := messages()
	var told [2]int
	for range 60000 {
		b := encoded(all[r.IntN(len(all))])
		from, to := r.IntN(len(b)+1), r.IntN(len(b)+1)
		from, to = min(from, to), max(from, to)
		put := make([]byte, r.IntN(6))
		for i := range put {
			put[i] = []byte{0, 1, 2, 3, 128, byte(r.Uint32())}[r.IntN(6)]
		}
		changed := slices.Clone(b)
		changed[r.IntN(len(b))] ^= 1 << r.IntN(8)
		for _, c := range [][]byte{slices.Concat(b[:from], put, b[to:]), slices.Concat(b[from:], b[:from]), slices.Concat(b[:from], put, b[from:]), changed, put} {
			if checkDecode(t, "any", c) {
				told[1]++
			} else {
				told[0]++
			}
		}
	}
	if told[0] < 50000 || told[1] < 5000 {
		t.Error("how many were none, and how many messages:", told)
	}
}
