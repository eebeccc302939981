package codec

import (
	"bytes"
	"encoding/hex"
	"math"
	"math/rand/v2"
	"slices"
	"testing"

	"windbreak/api"
)

// P9.3: a number that was made is read as it was, whatever stands behind, and just its bytes are read.
func TestNumberIsReadAsMade(t *testing.T) {
	r := rand.New(rand.NewPCG(4, 9))
	all := numbers()
	for range 1000 {
		all = append(all, r.Uint64()>>r.IntN(64))
	}
	for _, n := range all {
		for _, tail := range tails() {
			x := New(append(Number(n), tail...))
			if got, err := x.Number(n); got != n || err != api.OK || x.Left() != len(tail) {
				t.Error(n, "ahead of", tail, got, err, x.Left())
			}
		}
	}
}

// P9.3: so is a whole number, but the least one, whose size is above every most: that one is told by its number alone.
func TestIntIsReadAsMade(t *testing.T) {
	r := rand.New(rand.NewPCG(5, 9))
	all := wholes()
	for range 1000 {
		all = append(all, int64(r.Uint64())>>r.IntN(64))
	}
	for _, x := range all {
		for _, tail := range tails() {
			p := New(append(Int(x), tail...))
			if x == leastInt {
				if n, err := p.Number(topNumber); n != topNumber || err != api.OK || p.Left() != len(tail) {
					t.Error("the least one's number", n, err, p.Left())
				}
				continue
			}
			if got, err := p.Int(max(x, -x)); got != x || err != api.OK || p.Left() != len(tail) {
				t.Error(x, "ahead of", tail, got, err, p.Left())
			}
		}
	}
}

// P9.3: so are bytes, of each count.
func TestBytesAreReadAsMade(t *testing.T) {
	all := slices.Concat(counts(), []int{1 << 20, 1<<21 + 1})
	for count := range 300 {
		all = append(all, count)
	}
	for i, count := range all {
		b := bytesOf(uint64(i), count)
		for _, tail := range tails() {
			p := New(append(Bytes(b), tail...))
			if got, err := p.Bytes(count); !bytes.Equal(got, b) || err != api.OK || p.Left() != len(tail) {
				t.Error(count, "bytes ahead of", tail, short(got), err, p.Left())
			}
		}
	}
}

// P9.3: many codes of all kinds, one behind the other, are read as they were made.
func TestManyBehindEachOther(t *testing.T) {
	for seed := range uint64(100) {
		var all []byte
		r := rand.New(rand.NewPCG(seed, 10))
		for range 50 {
			n := r.Uint64() >> r.IntN(64)
			all = slices.Concat(all, Number(n), Int(int64(n/2)), Int(-int64(n/2)), Bytes(bytesOf(n, int(n%200))))
		}
		p, r := New(all), rand.New(rand.NewPCG(seed, 10))
		for range 50 {
			n := r.Uint64() >> r.IntN(64)
			got, err1 := p.Number(n)
			above, err2 := p.Int(topInt)
			below, err3 := p.Int(topInt)
			b, err4 := p.Bytes(200)
			if err1 != api.OK || err2 != api.OK || err3 != api.OK || err4 != api.OK || got != n || above != int64(n/2) || below != -int64(n/2) || !bytes.Equal(b, bytesOf(n, int(n%200))) {
				t.Fatal(n, got, above, below, short(b), err1, err2, err3, err4)
			}
		}
		if p.Left() != 0 {
			t.Error("left behind all:", p.Left())
		}
	}
}

// apart asks that no code is the beginning of another one: in the bytes' order, one would stand right behind its beginning.
func apart(t *testing.T, what string, codes [][]byte) {
	t.Helper()
	slices.SortFunc(codes, bytes.Compare)
	for i := 1; i < len(codes); i++ {
		if bytes.HasPrefix(codes[i], codes[i-1]) {
			t.Errorf("%s: %v begins with %v", what, short(codes[i]), short(codes[i-1]))
		}
	}
}

// P9.3: no code is the beginning of another one of its kind.
func TestNoBeginning(t *testing.T) {
	sizes := numbers()
	for n := range uint64(70000) {
		sizes = append(sizes, n)
	}
	slices.Sort(sizes)
	var ofNumbers, ofWholes, ofBytes [][]byte
	for _, n := range slices.Compact(sizes) {
		ofNumbers = append(ofNumbers, Number(n))
	}
	for _, x := range wholes() {
		ofWholes = append(ofWholes, Int(x))
	}
	seen := map[string]bool{}
	for count := range 300 {
		for seed := range uint64(8) {
			b := bytesOf(seed, count) // the same ones, and one more each time: only their number tells them apart
			if text := hex.EncodeToString(b); !seen[text] {
				seen[text] = true
				ofBytes = append(ofBytes, Bytes(b))
			}
		}
	}
	apart(t, "numbers", ofNumbers)
	apart(t, "whole numbers", ofWholes)
	apart(t, "bytes", ofBytes)
}

// again asks of bytes that what is read of them, by each kind, made again, are the bytes that were read; how many of the kinds read something is told.
func again(t testing.TB, b []byte) int {
	t.Helper()
	read := 0
	check := func(what string, p *Reader, err api.Errno, made []byte) {
		t.Helper()
		if err != api.OK {
			return
		}
		read++
		if used := b[:len(b)-p.Left()]; !bytes.Equal(made, used) {
			t.Errorf("%s: read of %v, made again %v", what, short(used), short(made))
		}
	}
	p := New(b)
	n, err := p.Number(topNumber)
	check("Number", p, err, Number(n))
	p = New(b)
	x, err := p.Int(topInt)
	check("Int", p, err, Int(x))
	p = New(b)
	some, err := p.Bytes(math.MaxInt)
	check("Bytes", p, err, Bytes(some))
	return read
}

// P9.3: what is read of any bytes, made again, are the bytes that were read.
func TestReadIsMadeAgain(t *testing.T) {
	read := 0
	for a := range 256 {
		read += again(t, []byte{byte(a)})
		for b := range 256 {
			read += again(t, []byte{byte(a), byte(b)}) + again(t, []byte{byte(a), byte(b), 0, 1, 2})
		}
	}
	for seed := range uint64(20000) {
		read += again(t, bytesOf(seed, int(seed%30)))
		read += again(t, append(bytes.Repeat([]byte{byte(128 + seed%128)}, int(seed%12)), bytesOf(seed, 20)...))
	}
	if read < 100000 {
		t.Error("too few were read:", read)
	}
}

// The document's examples.
func TestExamples(t *testing.T) {
	for _, c := range []struct{ got, want []byte }{
		{Number(0), []byte{0}}, {Number(300), []byte{172, 2}}, {Int(-1), []byte{1}}, {Int(1), []byte{2}}, {Bytes([]byte{7, 8}), []byte{2, 7, 8}},
	} {
		if !bytes.Equal(c.got, c.want) {
			t.Error(c.got, "asked:", c.want)
		}
	}
	for _, b := range [][]byte{{128, 0}, {172}} {
		if n, err := New(b).Number(topNumber); n != 0 || err != api.ErrCode {
			t.Error(b, n, err)
		}
	}
}
