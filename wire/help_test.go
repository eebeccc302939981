package wire

import (
	"bytes"
	"encoding/binary"
	"math"
	"math/big"
	"math/rand/v2"
	"reflect"
	"slices"
	"strings"
	"testing"

	"windbreak/api"
)

// seeded is a source that is the same for the same seed.
func seeded(seed uint64) *rand.Rand { return rand.New(rand.NewPCG(seed, 12)) }

// short is the beginning of a list, enough to tell it.
func short[T any](l []T) []T { return l[:min(len(l), 24)] }

// brief is a message with the beginnings of its lists.
func brief(m api.Msg) api.Msg {
	m.Ids, m.Rows, m.Nats = short(m.Ids), short(m.Rows), short(m.Nats)
	return m
}

// codes are those of numbers, one behind the other, by another library.
func codes(numbers ...uint64) []byte {
	var b []byte
	for _, n := range numbers {
		b = binary.AppendUvarint(b, n)
	}
	return b
}

// someCode is the code of bytes by another library.
func someCode(b []byte) []byte { return append(codes(uint64(len(b))), b...) }

// bigOf is a Nat by another library.
func bigOf(a api.Nat) *big.Int {
	n := new(big.Int)
	for _, limb := range slices.Backward(a) {
		n.Lsh(n, 64).Or(n, new(big.Int).SetUint64(limb))
	}
	return n
}

// natOf is the Nat of bytes, the highest first, by another library.
func natOf(b []byte) api.Nat {
	var a api.Nat
	for n := new(big.Int).SetBytes(b); n.Sign() > 0; n.Rsh(n, 64) {
		a = append(a, new(big.Int).And(n, new(big.Int).SetUint64(math.MaxUint64)).Uint64())
	}
	return a
}

// encoded is a message as bytes, be it right or not, by other libraries.
func encoded(m api.Msg) []byte {
	b := codes(uint64(m.Kind), uint64(m.A), uint64(m.B), uint64(m.C))
	for _, l := range [][]int{m.Ids, m.Rows} {
		b = append(b, codes(uint64(len(l)))...)
		for _, n := range l {
			b = append(b, codes(uint64(n))...)
		}
	}
	b = append(b, codes(uint64(len(m.Nats)))...)
	for _, a := range m.Nats {
		b = append(b, someCode(bigOf(a).Bytes())...)
	}
	return b
}

// allowed is whether a message may be, by the document's words: what its kind has is taken away, and nothing may be left.
func allowed(m api.Msg) bool {
	for _, n := range slices.Concat([]int{m.A, m.B, m.C}, m.Ids, m.Rows) {
		if n < 0 || n > 1<<30 {
			return false
		}
	}
	if len(m.Ids) > 16384 || len(m.Rows) > 16384 || len(m.Nats) > 16384 {
		return false
	}
	for i, n := range m.Rows {
		if slices.Max(m.Rows[:i+1]) != n || slices.Index(m.Rows, n) != i {
			return false
		}
	}
	return areRightNats(m) && nothingLeft(m)
}

func areRightNats(m api.Msg) bool {
	for _, a := range m.Nats {
		if len(a) > 4 || !isTrimmed(a) {
			return false
		}
	}
	return true
}

func isTrimmed(a api.Nat) bool { return len(a) == 0 || a[len(a)-1] > 0 }

func nothingLeft(m api.Msg) bool {
	ok := true
	rest := m
	switch m.Kind {
	case 1:
		ok = len(m.Nats) == 1
		rest.A, rest.B, rest.Nats = 0, 0, nil
	case 2, 8:
		rest.A, rest.B = 0, 0
	case 3:
		rest.A, rest.Nats = 0, nil
	case 4:
		rest.A, rest.B, rest.Rows = 0, 0, nil
	case 5:
		ok = len(m.Ids) == len(m.Nats)
		rest.A, rest.B, rest.Ids, rest.Nats = 0, 0, nil, nil
	case 6:
		ok = len(m.Ids) > 0
		rest.A, rest.B, rest.Ids = 0, 0, nil
	case 7:
		rest.A, rest.B, rest.C, rest.Rows = 0, 0, 0, nil
	case 9:
		ok = m.C == 0 || m.C == 1
		rest.A, rest.B, rest.C = 0, 0, 0
	case 10, 11:
		rest.A = 0
	default:
		ok = false
	}
	return ok && rest.A == 0 && rest.B == 0 && rest.C == 0 && len(rest.Ids) == 0 && len(rest.Rows) == 0 && len(rest.Nats) == 0
}

// decoded is the message of which bytes are the code, by other libraries: what could be read of them is told only if it may be, and its code is these bytes.
func decoded(b []byte) (api.Msg, bool) {
	ok, rest := true, b
	next := func() int {
		n, used := binary.Uvarint(rest)
		if used <= 0 || n > 1<<31 {
			ok, rest = false, nil
			return 0
		}
		rest = rest[used:]
		return int(n)
	}
	m := api.Msg{Kind: next(), A: next(), B: next(), C: next()}
	for _, l := range []*[]int{&m.Ids, &m.Rows} {
		for n := next(); n > 0 && ok; n-- {
			*l = append(*l, next())
		}
	}
	for n := next(); n > 0 && ok; n-- {
		length := min(next(), len(rest))
		m.Nats = append(m.Nats, natOf(rest[:length]))
		rest = rest[length:]
	}
	if !ok || !allowed(m) || !bytes.Equal(encoded(m), b) {
		return api.Msg{}, false
	}
	return m, true
}

func same(m, n api.Msg) bool {
	return m.Kind == n.Kind && m.A == n.A && m.B == n.B && m.C == n.C && slices.Equal(m.Ids, n.Ids) && slices.Equal(m.Rows, n.Rows) && slices.EqualFunc(m.Nats, n.Nats, slices.Equal)
}

// copied is a message in memory of its own.
func copied(m api.Msg) api.Msg {
	m.Ids, m.Rows, m.Nats = slices.Clone(m.Ids), slices.Clone(m.Rows), slices.Clone(m.Nats)
	for i, a := range m.Nats {
		m.Nats[i] = slices.Clone(a)
	}
	return m
}

// isZero is whether a message is the zero value, as it must be beside an error.
func isZero(m api.Msg) bool { return reflect.DeepEqual(m, api.Msg{}) }

// refuses asks of bytes that they are no message.
func refuses(t testing.TB, what string, b []byte) {
	t.Helper()
	if got, err := Decode(b); err != api.ErrMsg || !isZero(got) {
		t.Errorf("%s: %d bytes %v: error %d, told %v", what, len(b), short(b), err, brief(got))
	}
}

// accepts asks of bytes that they are this message.
func accepts(t testing.TB, what string, b []byte, want api.Msg) {
	t.Helper()
	if got, err := Decode(b); err != api.OK || !same(got, want) {
		t.Errorf("%s: %d bytes %v: error %d, told %v, asked %v", what, len(b), short(b), err, brief(got), brief(want))
	}
}

// mayBe asks of a message that it may be, and that its bytes are as another reckoning has them; and of these that they are the message.
func mayBe(t testing.TB, what string, m api.Msg) {
	t.Helper()
	if !Right(m) {
		t.Errorf("%s: %v: not right", what, brief(m))
	}
	got, err := Encode(m)
	if err != api.OK || !bytes.Equal(got, encoded(m)) {
		t.Errorf("%s: %v: error %d, told %v, asked %v", what, brief(m), err, short(got), short(encoded(m)))
	}
	accepts(t, what, encoded(m), m)
}

// mayNotBe asks of a message that it may not be, and of what would be its bytes that they are none's. (Limbs that are no number's have no bytes of their own.)
func mayNotBe(t testing.TB, what string, m api.Msg) {
	t.Helper()
	if Right(m) {
		t.Errorf("%s: %v: right", what, brief(m))
	}
	if got, err := Encode(m); err != api.ErrMsg || got != nil {
		t.Errorf("%s: %v: error %d, told %v", what, brief(m), err, short(got))
	}
	if !slices.ContainsFunc(m.Nats, func(a api.Nat) bool { return !isTrimmed(a) }) {
		refuses(t, what, encoded(m))
	}
}

// checkMsg asks of any message that all is told of it as by the document's words, and tells whether it may be.
func checkMsg(t testing.TB, what string, m api.Msg) bool {
	t.Helper()
	if allowed(m) {
		mayBe(t, what, m)
		return true
	}
	mayNotBe(t, what, m)
	return false
}

// checkDecode asks of any bytes that their Decode is as it must be, and tells whether they are a message.
func checkDecode(t testing.TB, what string, b []byte) bool {
	t.Helper()
	if want, ok := decoded(b); ok {
		accepts(t, what, b, want)
		return true
	}
	refuses(t, what, b)
	return false
}

// lastKind is the table's.
const lastKind = 11

// columns are, of each kind, which of A, B, C, the Ids, the Rows and the Nats it may have.
func columns(kind int) string {
	return [...]string{1: "ABN", 2: "AB", 3: "AN", 4: "ABR", 5: "ABIN", 6: "ABI", 7: "ABCR", 8: "AB", 9: "ABC", 10: "A", 11: "A"}[kind]
}

func has(kind int, column rune) bool { return strings.ContainsRune(columns(kind), column) }

// with is a message with another thing in one of its columns: a number, or a list of that number alone.
func with(m api.Msg, column rune, n int) api.Msg {
	switch column {
	case 'A':
		m.A = n
	case 'B':
		m.B = n
	case 'C':
		m.C = n
	case 'I':
		m.Ids = []int{n}
	case 'R':
		m.Rows = []int{n}
	case 'N':
		m.Nats = []api.Nat{natOf(codesOf(n))}
	}
	return m
}

// codesOf is a number's bytes, the highest first.
func codesOf(n int) []byte { return binary.BigEndian.AppendUint64(nil, uint64(n)) }

// least is a kind's message with no more than it must have.
func least(kind int) api.Msg {
	m := api.Msg{Kind: kind}
	switch kind {
	case 1:
		m.Nats = []api.Nat{nil}
	case 6:
		m.Ids = []int{0}
	}
	return m
}

// full is a kind's message with all that it may have.
func full(kind int) api.Msg {
	m := api.Msg{Kind: kind}
	for i, column := range "ABC" {
		if has(kind, column) {
			m = with(m, column, 300+i)
		}
	}
	if kind == 9 {
		m.C = 1
	}
	if has(kind, 'I') {
		m.Ids = []int{1 << 30, 7, 0, 7, 129}
	}
	if has(kind, 'R') {
		m.Rows = []int{0, 3, 4, 127, 128, 1 << 30}
	}
	if has(kind, 'N') {
		m.Nats = []api.Nat{{7}, nil, {8, 9}, {0, 0, 0, 1}, {math.MaxUint64, math.MaxUint64, math.MaxUint64, math.MaxUint64}}
	}
	if kind == 1 {
		m.Nats = m.Nats[4:]
	}
	return m
}

// rights are numbers that one of a message may be: the least, the greatest, and where a code gets one digit more.
func rights() []int {
	l := []int{0, 1, 2, 127, 128, 129, 255, 256, 300, 16383, 16384, 1<<21 - 1, 1 << 21, 1<<28 - 1, 1 << 28, 1<<30 - 1, 1 << 30}
	for bit := range 30 {
		l = append(l, 1<<bit|(0x2aaaaaaa&(1<<bit-1)))
	}
	return l
}

// wrongs are numbers that none of them may be: those that would be right if they were cut to 32 bits among them.
func wrongs() []int {
	return []int{1<<30 + 1, 1<<30 + 2, 1<<31 - 1, 1 << 31, 1<<32 - 1, 1 << 32, 1<<32 + 5, 1<<62 + 1, math.MaxInt - 1, math.MaxInt, -1, -2, -(1 << 30), -(1 << 31), -(1 << 32), -(1 << 32) + 5, math.MinInt + 1, math.MinInt}
}

// someNumber is one that a message may have, of any length.
func someNumber(r *rand.Rand) int { return r.IntN(1<<30+1) >> r.IntN(31) }

// numbersOf are so many of them.
func numbersOf(r *rand.Rand, count int) []int {
	l := make([]int, count)
	for i := range l {
		l[i] = someNumber(r)
	}
	return l
}

// rowsOf are at most so many that rise.
func rowsOf(r *rand.Rand, count int) []int {
	l := numbersOf(r, count)
	slices.Sort(l)
	return slices.Compact(l)
}

// natsOf are so many Nats of up to 4 limbs, many of whose limbs are 0, 1 or the greatest.
func natsOf(r *rand.Rand, count int) []api.Nat {
	l := make([]api.Nat, count)
	for i := range l {
		for range r.IntN(5) {
			l[i] = append(l[i], []uint64{0, 1, math.MaxUint64, 1 << 63, r.Uint64(), r.Uint64() >> r.IntN(64)}[r.IntN(6)])
		}
		for !isTrimmed(l[i]) {
			l[i] = l[i][:len(l[i])-1]
		}
	}
	return l
}

// anyRight is a message of a kind that may be, with lists of at most so many things.
func anyRight(r *rand.Rand, kind, most int) api.Msg {
	m := api.Msg{Kind: kind}
	for _, column := range columns(kind) {
		count := r.IntN(most + 1)
		switch column {
		case 'I':
			m.Ids = numbersOf(r, count)
		case 'R':
			m.Rows = rowsOf(r, count)
		case 'N':
			m.Nats = natsOf(r, count)
		default:
			m = with(m, column, someNumber(r))
		}
	}
	switch kind {
	case 1:
		m.Nats = natsOf(r, 1)
	case 5:
		m.Nats = natsOf(r, len(m.Ids))
	case 6:
		m.Ids = append(m.Ids, someNumber(r))
	case 9:
		m.C %= 2
	}
	return m
}

// messages are many that may be: of each kind the least and the fullest, those at each edge of the numbers, and others.
func messages() []api.Msg {
	var l []api.Msg
	r := seeded(1)
	for kind := 1; kind <= lastKind; kind++ {
		l = append(l, least(kind), full(kind))
		for _, n := range rights() {
			l = append(l, with(least(kind), 'A', n))
		}
		for range 60 {
			l = append(l, anyRight(r, kind, 12))
		}
	}
	return l
}
