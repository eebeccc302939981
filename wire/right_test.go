package wire

import (
	"math"
	"slices"
	"testing"

	"windbreak/api"
)

// P12.1: each kind may have all that the table says, and less; not one thing more, be it a number or a list, beside the least and beside all.
func TestKinds(t *testing.T) {
	for kind := 1; kind <= lastKind; kind++ {
		mayBe(t, "the least", least(kind))
		mayBe(t, "all", full(kind))
		for _, m := range []api.Msg{least(kind), full(kind)} {
			for _, column := range "ABCIRN" {
				if has(kind, column) {
					continue
				}
				for _, n := range []int{1, 2, 1 << 30, -1} {
					mayNotBe(t, "a thing more: "+string(column), with(m, column, n))
				}
				if column > 'C' {
					mayNotBe(t, "a list of a 0 more: "+string(column), with(m, column, 0))
				} else {
					mayBe(t, "a 0", with(m, column, 0))
				}
			}
		}
	}
}

// P12.1: what a kind may have, it may have alone.
func TestColumnsAlone(t *testing.T) {
	for kind := 1; kind <= lastKind; kind++ {
		for _, column := range columns(kind) {
			m := with(least(kind), column, 1)
			if kind == 5 && column > 'C' {
				mayNotBe(t, "Ids or Nats alone", m)
				continue
			}
			mayBe(t, string(column), m)
		}
	}
}

// P12.1: a kind that is none of the table's may not be, whatever the message has.
func TestOtherKinds(t *testing.T) {
	for _, kind := range []int{0, 12, 13, 15, 16, 100, 128, 255, 256, 257, 1<<16 + 2, 1<<30 + 2, 1<<31 + 2, 1<<32 + 2, math.MaxInt, -1, -2, -10, -11, -12, -1 << 31, -1<<32 + 2, math.MinInt, math.MinInt + 2} {
		mayNotBe(t, "no more than the kind", api.Msg{Kind: kind})
		for other := 1; other <= lastKind; other++ {
			for _, m := range []api.Msg{least(other), full(other)} {
				m.Kind = kind
				mayNotBe(t, "what another kind has", m)
			}
		}
	}
}

// P12.1: each of A, B and C at each edge.
func TestNumbers(t *testing.T) {
	for kind := 1; kind <= lastKind; kind++ {
		for _, m := range []api.Msg{least(kind), full(kind)} {
			for _, column := range "ABC" {
				for _, n := range wrongs() {
					mayNotBe(t, string(column), with(m, column, n))
				}
				for _, n := range rights() {
					if has(kind, column) && (kind != 9 || column != 'C') {
						mayBe(t, string(column), with(m, column, n))
					}
				}
			}
		}
	}
}

// P12.1: each number of a list at each edge, wherever it stands.
func TestNumbersOfLists(t *testing.T) {
	for _, n := range rights() {
		mayBe(t, "an Id", api.Msg{Kind: 6, Ids: []int{n}})
		mayBe(t, "Ids", api.Msg{Kind: 6, Ids: []int{5, n, 1 << 30}})
		mayBe(t, "an Id with a Nat", api.Msg{Kind: 5, Ids: []int{n}, Nats: []api.Nat{{1}}})
		mayBe(t, "a row", api.Msg{Kind: 4, Rows: []int{n}})
		mayBe(t, "a row", api.Msg{Kind: 7, Rows: []int{n}})
	}
	for _, n := range wrongs() {
		for _, l := range [][]int{{n}, {n, 8}, {8, n}, {4, n, 8}, {0, n, 1 << 30}} {
			mayNotBe(t, "an Id", api.Msg{Kind: 6, Ids: l})
			mayNotBe(t, "an Id with a Nat", api.Msg{Kind: 5, Ids: l, Nats: make([]api.Nat, len(l))})
			mayNotBe(t, "a row", api.Msg{Kind: 4, Rows: l})
			mayNotBe(t, "a row", api.Msg{Kind: 7, Rows: l})
		}
		mayNotBe(t, "rows that rise", api.Msg{Kind: 4, Rows: []int{n, math.MaxInt}})
		mayNotBe(t, "rows that rise", api.Msg{Kind: 7, Rows: []int{math.MinInt, n}})
	}
}

// counted are so many numbers, from 0 on.
func counted(count int) []int {
	l := make([]int, count)
	for i := range l {
		l[i] = i
	}
	return l
}

// P12.1: a list of 16384 things may be; one of one more, or of many more, may not, of whatever kind.
func TestLongLists(t *testing.T) {
	for _, count := range []int{16383, 16384, 16385, 16386, 1 << 15, 1 << 16} {
		check := mayBe
		if count > 16384 {
			check = mayNotBe
		}
		check(t, "Ids", api.Msg{Kind: 6, Ids: counted(count)})
		check(t, "Ids that are all the same", api.Msg{Kind: 6, Ids: make([]int, count)})
		check(t, "Ids and Nats", api.Msg{Kind: 5, Ids: counted(count), Nats: make([]api.Nat, count)})
		check(t, "Rows", api.Msg{Kind: 4, Rows: counted(count)})
		check(t, "Rows", api.Msg{Kind: 7, Rows: counted(count)})
		check(t, "Nats", api.Msg{Kind: 3, Nats: make([]api.Nat, count)})
		for kind := 1; kind <= lastKind; kind++ {
			if !has(kind, 'I') {
				mayNotBe(t, "Ids of another kind", api.Msg{Kind: kind, Ids: make([]int, count)})
			}
			if !has(kind, 'R') {
				mayNotBe(t, "Rows of another kind", api.Msg{Kind: kind, Rows: counted(count)})
			}
			if kind != 3 {
				mayNotBe(t, "Nats of another kind, or without their Ids", api.Msg{Kind: kind, Nats: make([]api.Nat, count)})
			}
		}
	}
}

// P12.1: rows rise, each above the one ahead of it; Ids need not.
func TestRise(t *testing.T) {
	for _, l := range [][]int{{0}, {5}, {0, 1}, {0, 3}, {7, 8, 9}, {0, 127, 128, 1 << 20, 1 << 30}, {1<<30 - 1, 1 << 30}} {
		mayBe(t, "rows that rise", api.Msg{Kind: 4, Rows: l})
		mayBe(t, "rows that rise", api.Msg{Kind: 7, Rows: l})
		mayBe(t, "Ids", api.Msg{Kind: 6, Ids: l})
	}
	for _, l := range [][]int{{0, 0}, {3, 3}, {1 << 30, 1 << 30}, {0, 1, 1}, {0, 0, 1}, {1, 2, 2, 3}, {1, 0}, {3, 2, 1}, {0, 2, 1}, {1, 0, 2}, {0, 1, 2, 3, 0}, {5, 1, 2, 3, 4}, {1, 2, 1}, {1 << 30, 0}} {
		mayNotBe(t, "the same twice, or less", api.Msg{Kind: 4, Rows: l})
		mayNotBe(t, "the same twice, or less", api.Msg{Kind: 7, Rows: l})
		mayBe(t, "Ids", api.Msg{Kind: 6, Ids: l})
		mayBe(t, "Ids", api.Msg{Kind: 5, Ids: l, Nats: make([]api.Nat, len(l))})
	}
	for at := 1; at < 200; at++ {
		l := counted(200)
		l[at]--
		mayNotBe(t, "one that is as the one ahead", api.Msg{Kind: 4, Rows: l})
	}
	l := counted(16384)
	l[16383]--
	mayNotBe(t, "the last of the longest list", api.Msg{Kind: 7, Rows: l})
}

// P12.1: a Nat of at most 4 limbs, the last of which is not 0, may be, wherever it stands.
func TestNats(t *testing.T) {
	top := uint64(math.MaxUint64)
	right := []api.Nat{nil, {}, {1}, {255}, {256}, {top}, {0, 1}, {top, top}, {0, 0, 1}, {1, 2, 3}, {0, 0, 0, 1}, {1, 0, 0, 1}, {top, top, top, top}}
	wrong := []api.Nat{{0}, {0, 0}, {1, 0}, {1, 2, 0}, {1, 2, 3, 0}, {0, 0, 0, 0}, {1, 2, 3, 4, 0}, {0, 0, 0, 0, 0}, {0, 0, 0, 0, 1}, {1, 2, 3, 4, 5}, {1, 2, 3, 4, 5, 6}, filledNat(64, 1), filledNat(64, top), filledNat(65, 1), append(filledNat(64, 1), 0), filledNat(200, top)}
	for i, a := range slices.Concat(right, wrong) {
		check := mayBe
		if i >= len(right) {
			check = mayNotBe
		}
		check(t, "a key", api.Msg{Kind: 1, Nats: []api.Nat{a}})
		for _, l := range [][]api.Nat{{a}, {a, {7}}, {{7}, a}, {nil, a, {0, 8}}, {a, a, a}} {
			check(t, "among others", api.Msg{Kind: 3, Nats: l})
			check(t, "with Ids", api.Msg{Kind: 5, Nats: l, Ids: counted(len(l))})
		}
	}
	l := make([]api.Nat, 16384)
	l[16383] = api.Nat{0}
	mayNotBe(t, "the last of the longest list", api.Msg{Kind: 3, Nats: l})
}

// filledNat is limbs that are all the same.
func filledNat(count int, limb uint64) api.Nat { return slices.Repeat(api.Nat{limb}, count) }

// P12.1: MsgSetup has one Nat, be it 0.
func TestSetup(t *testing.T) {
	for _, count := range []int{0, 1, 2, 3, 16384} {
		check := mayNotBe
		if count == 1 {
			check = mayBe
		}
		check(t, "Nats of 0", api.Msg{Kind: api.MsgSetup, Nats: make([]api.Nat, count)})
		check(t, "Nats", api.Msg{Kind: api.MsgSetup, A: 4, B: 2, Nats: slices.Repeat([]api.Nat{{7, 8}}, count)})
	}
}

// P12.1: MsgHist has as many Nats as Ids, be there none.
func TestHist(t *testing.T) {
	for _, count := range []int{0, 1, 2, 3, 127, 128, 300, 16383, 16384} {
		for _, other := range []int{0, 1, count - 2, count - 1, count, count + 1, count + 2, 2 * count} {
			check := mayNotBe
			if count == other && count <= 16384 {
				check = mayBe
			}
			if other >= 0 {
				check(t, "Ids and Nats", api.Msg{Kind: api.MsgHist, A: 1, B: 2, Ids: counted(count), Nats: slices.Repeat([]api.Nat{{7, 8}}, other)})
			}
		}
	}
}

// P12.1: MsgChoose has one Id at least.
func TestChoose(t *testing.T) {
	for _, none := range [][]int{nil, {}, make([]int, 0, 9)} {
		mayNotBe(t, "no Ids", api.Msg{Kind: api.MsgChoose, Ids: none})
		mayNotBe(t, "no Ids", api.Msg{Kind: api.MsgChoose, A: 1, B: 2, Ids: none})
	}
	mayBe(t, "one", api.Msg{Kind: api.MsgChoose, Ids: []int{0}})
	mayBe(t, "one", api.Msg{Kind: api.MsgChoose, A: 1, B: 2, Ids: []int{9}})
	mayBe(t, "two", api.Msg{Kind: api.MsgChoose, Ids: []int{9, 9}})
}

// P12.1: MsgAnswer's C is 0 or 1.
func TestAnswer(t *testing.T) {
	mayBe(t, "0", api.Msg{Kind: api.MsgAnswer, A: 5, B: 6})
	mayBe(t, "1", api.Msg{Kind: api.MsgAnswer, A: 5, B: 6, C: 1})
	for _, c := range slices.Concat(rights()[2:17], wrongs(), []int{3, 4, 5, 1<<8 + 1, 1<<16 + 1, 1<<32 + 1}) {
		mayNotBe(t, "another C", api.Msg{Kind: api.MsgAnswer, A: 5, B: 6, C: c})
	}
}

// R2: lists that are nil and such that are empty are the same: neither is a list that a kind may not have.
func TestEmptyLists(t *testing.T) {
	for kind := 1; kind <= lastKind; kind++ {
		m := least(kind)
		for _, ids := range [][]int{nil, {}, make([]int, 0, 3)} {
			for _, nats := range [][]api.Nat{nil, {}, make([]api.Nat, 0, 3)} {
				n := m
				if len(n.Ids) == 0 {
					n.Ids = ids
				}
				if len(n.Nats) == 0 {
					n.Nats = nats
				}
				n.Rows = ids
				mayBe(t, "empty lists", n)
				if got, _ := Encode(n); string(got) != string(encoded(m)) {
					t.Error("other bytes:", kind, got)
				}
			}
		}
	}
	for _, zero := range []api.Nat{nil, {}, make(api.Nat, 0, 3)} {
		mayBe(t, "a Nat of 0", api.Msg{Kind: 1, Nats: []api.Nat{zero}})
	}
}

// P12.1: any messages, right ones and such as are wrong in one place or in many.
func TestAny(t *testing.T) {
	r := seeded(2)
	var may [2]int
	for range 30000 {
		m := spoilt(r, anyRight(r, 1+r.IntN(lastKind), 6))
		if checkMsg(t, "any", m) {
			may[1]++
		} else {
			may[0]++
		}
	}
	if may[0] < 5000 || may[1] < 5000 {
		t.Error("how many of these may not be, and how many may:", may)
	}
}
