package wire

import (
	"bytes"
	"math"
	"slices"
	"sync"
	"testing"

	"windbreak/api"
)

// spoil overwrites all that a list could reach, behind its end too.
func spoil[T any](l []T, thing T) {
	l = l[:cap(l)]
	for i := range l {
		l[i] = thing
	}
}

// roomy is a list with room behind its end, of which nothing is to be changed.
func roomy[T any](l []T, behind ...T) []T {
	return append(slices.Clone(l), behind...)[:len(l)]
}

// R3: what is handed in stays as it is, behind its end too, be it a message or not.
func TestHandedInStays(t *testing.T) {
	r := seeded(8)
	for _, m := range messages() {
		for _, m := range []api.Msg{m, spoilt(r, m)} {
			given := copied(m)
			given.Ids, given.Rows, given.Nats = roomy(given.Ids, 5, 6), roomy(given.Rows, 7, 8), roomy(given.Nats, api.Nat{9})
			for i, a := range given.Nats {
				given.Nats[i] = roomy(a, 1, 2)
			}
			Right(given)
			Encode(given)
			whole := api.Msg{Ids: given.Ids[:len(given.Ids)+2], Rows: given.Rows[:len(given.Rows)+2], Nats: given.Nats[:len(given.Nats)+1]}
			if !same(given, m) || !slices.Equal(whole.Ids[len(m.Ids):], []int{5, 6}) || !slices.Equal(whole.Rows[len(m.Rows):], []int{7, 8}) || !slices.Equal(whole.Nats[len(m.Nats)], api.Nat{9}) {
				t.Fatal("changed:", m, given)
			}
			for i, a := range given.Nats {
				if !slices.Equal(a[len(a):len(a)+2], api.Nat{1, 2}) {
					t.Fatal("changed:", m, i)
				}
			}
		}
		all := append(encoded(m), 1, 2, 3, 4, 5, 6, 7, 8)
		for _, count := range []int{0, 3, 7, len(all) - 9, len(all) - 8, len(all) - 3, len(all)} {
			b := slices.Clone(all)
			Decode(b[:count])
			if !bytes.Equal(b, all) {
				t.Fatal("changed:", count, all)
			}
		}
	}
}

// R3: what Encode tells is the caller's own: no message hangs on it, nor does it hang on a message.
func TestEncodedIsOwn(t *testing.T) {
	for _, m := range messages() {
		given := copied(m)
		first, _ := Encode(given)
		second, _ := Encode(given)
		spoil(first, 0x55)
		_ = append(first, 9, 9, 9)
		if !same(given, m) || !bytes.Equal(second, encoded(m)) {
			t.Fatal("what is told is shared:", m)
		}
		for _, a := range given.Nats {
			spoil(a, 5)
		}
		spoil(given.Ids, 5)
		spoil(given.Rows, 5)
		if !bytes.Equal(second, encoded(m)) {
			t.Fatal("what was handed in is shared:", m)
		}
	}
}

// R3: what Decode tells is the caller's own: neither the bytes nor another answer hangs on it, and no two of its lists share any memory.
func TestDecodedIsOwn(t *testing.T) {
	for _, m := range messages() {
		b := encoded(m)
		given := slices.Clone(b)
		first, _ := Decode(given)
		second, _ := Decode(given)
		for i, a := range first.Nats {
			spoil(a, 5)
			_ = append(a, 9, 9)
			if !slices.EqualFunc(first.Nats[i+1:], m.Nats[i+1:], slices.Equal) {
				t.Fatal("two Nats share memory:", m)
			}
		}
		spoil(first.Nats, nil)
		spoil(first.Ids, 5)
		if !slices.Equal(first.Rows, m.Rows) {
			t.Fatal("two lists share memory:", m)
		}
		spoil(first.Rows, 5)
		if !bytes.Equal(given, b) || !same(second, m) {
			t.Fatal("what is told is shared:", m)
		}
		spoil(given, 0x55)
		if !same(second, m) {
			t.Fatal("what was handed in is shared:", m)
		}
	}
}

// told is all that calls tell of some messages and bytes, one behind the other.
func told() []byte {
	var all []byte
	for _, m := range messages() {
		b, err := Encode(m)
		all = append(append(all, b...), byte(err))
		m, err = Decode(b)
		all = append(all, textOf(m)...)
		all = append(all, byte(err))
		if Right(m) {
			all = append(all, 1)
		}
	}
	return all
}

// R4: the same is told whatever was asked ahead, and by many that ask at one time.
func TestNothingKept(t *testing.T) {
	want := told()
	Encode(api.Msg{Kind: -1})
	Encode(longest(5))
	Decode([]byte{1, 2, 3})
	Right(api.Msg{Kind: 12})
	if !bytes.Equal(told(), want) {
		t.Error("another answer behind other calls")
	}
	var wait sync.WaitGroup
	var all [8][]byte
	for i := range all {
		wait.Go(func() { all[i] = told() })
	}
	wait.Wait()
	for i := range all {
		if !bytes.Equal(all[i], want) {
			t.Error("another answer at one time with others")
		}
	}
}

// P1 and R1: a call that tells an error tells nothing else, and changes nothing: asked again, it tells the same.
func TestErrorsAlone(t *testing.T) {
	wrong := api.Msg{Kind: api.MsgAsk, A: 1, Rows: []int{4, 3}}
	for range 3 {
		mayNotBe(t, "rows that fall", wrong)
		if !slices.Equal(wrong.Rows, []int{4, 3}) {
			t.Error("changed:", wrong)
		}
		refuses(t, "the last Nat is cut off", []byte{5, 1, 2, 0, 2, 8, 9, 0, 2, 1, 7, 2, 5})
		refuses(t, "a byte behind", []byte{7, 1, 2, 3, 0, 2, 4, 5, 0, 0})
	}
}

// msgOf is a message whose lists a script says: each number of 5 bytes, each Nat of so many limbs as a byte says, and these.
func msgOf(kind, a, b, c int, ids, rows, nats []byte) api.Msg {
	m := api.Msg{Kind: kind, A: a, B: b, C: c, Ids: intsOf(ids), Rows: intsOf(rows)}
	for len(nats) > 0 {
		limbs := int(nats[0] % 7)
		nats = nats[1:]
		var n api.Nat
		for range min(limbs, len(nats)) {
			n = append(n, uint64(nats[0])*0x0101010101010101)
			nats = nats[1:]
		}
		m.Nats = append(m.Nats, n)
	}
	return m
}

func intsOf(script []byte) []int {
	var l []int
	for part := range slices.Chunk(script, 5) {
		n := 0
		for _, x := range part {
			n = n<<8 | int(x)
		}
		l = append(l, n)
	}
	return l
}

// FuzzMessages looks for messages and bytes at which a call panics, or tells another thing than another reckoning.
func FuzzMessages(f *testing.F) {
	f.Add(4, 0, 1, 0, []byte{}, []byte{0, 0, 0, 0, 0, 0, 0, 0, 0, 3}, []byte{}, []byte{4, 0, 1, 0, 0, 2, 0, 3, 0})
	f.Add(5, 1, 2, 0, []byte{0, 64, 0, 0, 0}, []byte{}, []byte{1, 7}, []byte{5, 1, 2, 0, 1, 5, 0, 1, 2, 1, 0})
	f.Add(1, 1<<30, 1<<30, 0, []byte{}, []byte{}, []byte{4, 1, 2, 3, 4}, []byte{1, 4, 2, 0, 0, 0, 1, 2, 70, 27})
	f.Add(9, math.MaxInt, math.MinInt, 1, []byte{1}, []byte{2}, []byte{6}, []byte{9, 128, 0, 0, 0, 0, 0, 0})
	f.Fuzz(func(t *testing.T, kind, a, b, c int, ids, rows, nats, raw []byte) {
		checkDecode(t, "bytes", raw)
		m := msgOf(kind, a, b, c, ids, rows, nats)
		checkMsg(t, "a message", m)
		for kind := range 13 {
			m.Kind = kind
			checkMsg(t, "of another kind", m)
		}
	})
}
