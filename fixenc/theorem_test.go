package fixenc

import (
	"math"
	"math/big"
	"math/rand/v2"
	"slices"
	"testing"

	"windbreak/api"
	"windbreak/modint"
	"windbreak/nat"
	"windbreak/paillier"
	"windbreak/tape"
)

// drawnModulus is one of so many bits, 2 to 512.
func drawnModulus(r *rand.Rand, width int) api.Nat {
	v := drawnTo(r, more(big2(width-1), -1))
	v.Add(v, big2(width-1))
	if v.Cmp(big.NewInt(3)) < 0 {
		return api.Nat{3}
	}
	return limbs(v)
}

// P7.4, P2: what was encoded is decoded, of moduli of each length; and what is encoded is a rest.
func TestEncodedIsDecoded(t *testing.T) {
	encoded, decoded := must[api.Nat](t), must[api.Int](t)
	r := rand.New(rand.NewPCG(1, 7))
	for width := 2; width <= 512; width++ {
		n := drawnModulus(r, width)
		half := halfOf(n)
		for range 6 {
			x := drawnTo(r, half)
			for _, y := range []*big.Int{x, opposite(x), half, opposite(half)} {
				v := encoded(Encode(n, parts(y)))
				if !nat.Right(v) || nat.Cmp(v, n) >= 0 {
					t.Fatal("no rest:", n, y, v)
				}
				if got := decoded(Decode(n, v)); !modint.Right(got) || whole(got).Cmp(y) != 0 {
					t.Error("decoded:", n, y, v, got)
				}
			}
		}
	}
}

// P7.4, P2: what was packed is unpacked, by each shift.
func TestPackedIsUnpacked(t *testing.T) {
	r := rand.New(rand.NewPCG(2, 7))
	count := 0
	for _, shift := range shifts() {
		for range 300 {
			n := drawnModulus(r, 2+r.IntN(200))
			g, h := int64(r.Uint64())>>r.IntN(64), r.Int64N(1<<shift)
			v, err := Pack(n, shift, g, h)
			if _, fails := wantPack(n, shift, g, h); err != fails {
				t.Fatal("packed:", n, shift, g, h, err, fails)
			}
			if err != api.OK {
				continue
			}
			count++
			if a, b, err := Unpack(n, shift, v); err != api.OK || a != g || b != h {
				t.Error("unpacked:", n, shift, g, h, a, b, err)
			}
		}
	}
	if count < 5000 {
		t.Error("few pairs are packed:", count)
	}
}

// P7.4: each rest by an odd modulus is encoded again as it was; so are its parts packed.
func TestDecodedIsEncoded(t *testing.T) {
	decoded, encoded := must[api.Int](t), must[api.Nat](t)
	for n := uint64(3); n <= 301; n += 2 {
		for v := range n {
			m, rest := api.Nat{n}, nat.Of(v)
			if got := encoded(Encode(m, decoded(Decode(m, rest)))); !slices.Equal(got, rest) {
				t.Error("encoded again:", n, v, got)
			}
			g, h, err := Unpack(m, 3, rest)
			if err != api.OK {
				t.Fatal("unpacked:", n, v, err)
			}
			if got := encoded(Pack(m, 3, g, h)); !slices.Equal(got, rest) {
				t.Error("packed again:", n, v, g, h, got)
			}
		}
	}
}

// list is pairs that are to be packed.
type list []pair

// sums are those of a list's g and h.
func (l list) sums() (*big.Int, *big.Int) {
	g, h := new(big.Int), new(big.Int)
	for _, p := range l {
		g.Add(g, big.NewInt(p.g))
		h.Add(h, big.NewInt(p.h))
	}
	return g, h
}

// checkTold asks of the sum of packs by n that it is decoded as both sums in one, and unpacked, if the first one is an int64; else that is ErrRoom.
func checkTold(t *testing.T, n api.Nat, shift int, sum, g, h *big.Int) {
	t.Helper()
	v := limbs(new(big.Int).Mod(sum, number(n)))
	if x, err := Decode(n, v); err != api.OK || whole(x).Cmp(put(shift, g, h)) != 0 {
		t.Error("decoded:", n, shift, g, h, x, err)
	}
	a, b, err := Unpack(n, shift, v)
	if !g.IsInt64() {
		if a != 0 || b != 0 || err != api.ErrRoom {
			t.Error("a sum that is no int64:", n, shift, g, h, a, b, err)
		}
	} else if err != api.OK || a != g.Int64() || b != h.Int64() {
		t.Error("unpacked:", n, shift, g, h, a, b, err)
	}
}

// checkSums packs a list's pairs, all of which must have room, and asks for the sums.
func checkSums(t *testing.T, n api.Nat, shift int, l list) {
	t.Helper()
	sum := new(big.Int)
	for _, p := range l {
		v, err := Pack(n, shift, p.g, p.h)
		if err != api.OK {
			t.Fatal("Pack:", n, shift, p, err)
		}
		sum.Add(sum, number(v))
	}
	g, h := l.sums()
	checkTold(t, n, shift, sum, g, h)
}

// drawnPair is within the limits, often at their edges.
func drawnPair(r *rand.Rand, most, weight int64) pair {
	g := r.Int64N(most) + r.Int64N(2)
	h := r.Int64N(weight) + r.Int64N(2)
	return pair{[]int64{g, -g, most, -most, 0}[r.IntN(5)], []int64{h, h, weight, 0}[r.IntN(4)]}
}

// lists are some of at most so many pairs: the farthest ones above 0 and below, none at all, and drawn ones.
func lists(r *rand.Rand, rows int, most, weight int64) []list {
	l := []list{nil, slices.Repeat(list{{most, weight}}, rows), slices.Repeat(list{{-most, weight}}, rows), slices.Repeat(list{{-most, 0}}, rows), slices.Repeat(list{{0, weight}}, rows), {{most, weight}}}
	for range 4 {
		var some list
		for range r.IntN(rows + 1) {
			some = append(some, drawnPair(r, most, weight))
		}
		l = append(l, some)
	}
	return l
}

// tightest is the least modulus by which there is a Room, and its shift; false: by none of 8 limbs.
func tightest(rows, most, weight int64) (api.Nat, int, bool) {
	shift := new(big.Int).Mul(big.NewInt(rows), big.NewInt(weight)).BitLen()
	n := limbs(more(new(big.Int).Lsh(farthestOf(shift, rows, most), 1), 1))
	return n, shift, shift <= 62
}

// P7.4, P3: of lists of at most so many pairs all are packed, and the sum of the packs by n is unpacked to the sums, of the least modulus by which there is a Room, and of greater ones.
func TestSumsOfPacks(t *testing.T) {
	r := rand.New(rand.NewPCG(4, 7))
	count := 0
	for range 600 {
		rows := 1 + r.IntN(40)
		most := 1 + r.Int64N(1<<r.IntN(63))
		weight := 1 + r.Int64N(1<<r.IntN(60))
		least, shift, ok := tightest(int64(rows), most, weight)
		if !ok {
			continue
		}
		count++
		for _, n := range []api.Nat{least, limbs(more(number(least), 1)), drawnModulus(r, number(least).BitLen()+1+r.IntN(64)), filled(8, top)} {
			s, err := Room(n, int64(rows), most, weight)
			if err != api.OK || s != shift {
				t.Fatal("Room:", n, rows, most, weight, s, err)
			}
			for _, l := range lists(r, rows, most, weight) {
				checkSums(t, n, s, l)
			}
		}
	}
	if count < 300 {
		t.Error("few have a Room:", count)
	}
}

// P7.4, P3: of the same pair as often as may be, where rows are too many to be gone through.
func TestManyRows(t *testing.T) {
	r := rand.New(rand.NewPCG(5, 7))
	for range 3000 {
		rows, most, weight := 1+r.Int64N(1<<r.IntN(63)), 1+r.Int64N(1<<r.IntN(63)), 1+r.Int64N(1<<r.IntN(63))
		n, shift, ok := tightest(rows, most, weight)
		if !ok {
			if s, err := Room(filled(8, top), rows, most, weight); err != api.ErrRoom || s != 0 {
				t.Error("Room:", rows, most, weight, s, err)
			}
			continue
		}
		if s, err := Room(n, rows, most, weight); err != api.OK || s != shift {
			t.Fatal("Room:", n, rows, most, weight, s, err)
		}
		times := big.NewInt(rows)
		for _, p := range []pair{{most, weight}, {-most, weight}, {-most, 0}, {0, weight}, {1, 1}, {-1, 0}} {
			v, err := Pack(n, shift, p.g, p.h)
			if err != api.OK {
				t.Fatal("Pack:", n, shift, p, err)
			}
			g, h := new(big.Int).Mul(times, big.NewInt(p.g)), new(big.Int).Mul(times, big.NewInt(p.h))
			checkTold(t, n, shift, new(big.Int).Mul(times, number(v)), g, h)
		}
	}
}

// P7.4: sums that are just -2^63 and 2^63 - 1 are told; beyond that there may be a Room, but Unpack has no int64 for the sum (P7.2).
func TestSumsBeyond(t *testing.T) {
	n := wide()
	s, err := Room(n, 3, math.MaxInt64, 1)
	if err != api.OK || s != 2 {
		t.Fatal("Room:", s, err)
	}
	for _, l := range []list{
		{{math.MaxInt64, 1}}, {{math.MaxInt64, 1}, {0, 1}, {0, 1}}, {{math.MaxInt64, 1}, {math.MaxInt64, 0}, {-math.MaxInt64, 1}}, {{-math.MaxInt64, 0}, {-1, 1}},
		{{math.MaxInt64, 1}, {1, 1}}, {{-math.MaxInt64, 1}, {-2, 1}}, {{math.MaxInt64, 1}, {math.MaxInt64, 1}, {math.MaxInt64, 1}}, {{-math.MaxInt64, 1}, {-math.MaxInt64, 1}},
	} {
		checkSums(t, n, s, l)
	}
}

// P3: packs that are added while they are hidden are unpacked to the sums.
func TestHiddenSums(t *testing.T) {
	ok := must[api.Nat](t)
	r := rand.New(rand.NewPCG(6, 7))
	script := make([]byte, api.MaxTape)
	for i := range script {
		script[i] = byte(r.Uint32())
	}
	hiders, _ := tape.New(script)
	for _, k := range []api.Key{{P: 131, Q: 137}, {P: 2147483647, Q: 1073741827}} {
		n := ok(paillier.Public(k))
		s, err := Room(n, 10, 50, 1)
		if err != api.OK {
			t.Fatal("Room:", k, err)
		}
		for _, l := range lists(r, 10, 50, 1) {
			hidden := api.Nat{1}
			for _, p := range l {
				hidden = ok(paillier.Add(n, hidden, ok(paillier.Draw(n, ok(Pack(n, s, p.g, p.h)), hiders))))
			}
			g, h := l.sums()
			if a, b, err := Unpack(n, s, ok(paillier.Decrypt(k, hidden))); err != api.OK || a != g.Int64() || b != h.Int64() {
				t.Error("hidden sums:", k, l, a, b, err)
			}
		}
	}
}

// The document's examples.
func TestExamples(t *testing.T) {
	ok := must[api.Nat](t)
	n := api.Nat{101}
	if v := ok(Encode(n, modint.Of(-1))); !slices.Equal(v, api.Nat{100}) {
		t.Error("Encode(-1):", v)
	}
	if x, err := Decode(n, api.Nat{100}); err != api.OK || modint.Cmp(x, modint.Of(-1)) != 0 {
		t.Error("Decode(100):", x, err)
	}
	if v, err := Encode(n, modint.Of(51)); err != api.ErrRoom || v != nil {
		t.Error("Encode(51):", v, err)
	}
	m := api.Nat{17947}
	if v := ok(Pack(m, 3, 5, 2)); !slices.Equal(v, api.Nat{42}) {
		t.Error("Pack(3, 5, 2):", v)
	}
	if v := ok(Pack(m, 3, -5, 2)); !slices.Equal(v, api.Nat{17909}) {
		t.Error("Pack(3, -5, 2):", v)
	}
	if g, h, err := Unpack(m, 3, api.Nat{17909}); err != api.OK || g != -5 || h != 2 {
		t.Error("Unpack(3, 17909):", g, h, err)
	}
	if s, err := Room(m, 10, 50, 1); err != api.OK || s != 4 {
		t.Error("Room(17947, 10, 50, 1):", s, err)
	}
}
