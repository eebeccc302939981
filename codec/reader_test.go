package codec

import (
	"bytes"
	"math"
	"math/big"
	"math/rand/v2"
	"slices"
	"testing"

	"windbreak/api"
)

// P9.2: a new reader has read nothing, and tells of each reading how many bytes are left.
func TestLeft(t *testing.T) {
	for _, count := range counts() {
		if r := New(bytesOf(1, count)); r.Left() != count || r.Left() != count {
			t.Error("of", count, "bytes:", r.Left())
		}
	}
	r := New([]byte{172, 2, 1, 2, 7, 8, 0, 0, 0})
	if n, err := r.Number(300); n != 300 || err != api.OK || r.Left() != 7 {
		t.Error("300:", n, err, r.Left())
	}
	if x, err := r.Int(1); x != -1 || err != api.OK || r.Left() != 6 {
		t.Error("-1:", x, err, r.Left())
	}
	if b, err := r.Bytes(2); !bytes.Equal(b, []byte{7, 8}) || err != api.OK || r.Left() != 3 {
		t.Error("7 and 8:", b, err, r.Left())
	}
	if n, err := r.Number(0); n != 0 || err != api.OK || r.Left() != 2 {
		t.Error("0:", n, err, r.Left())
	}
	if x, err := r.Int(0); x != 0 || err != api.OK || r.Left() != 1 {
		t.Error("the whole number 0:", x, err, r.Left())
	}
	if b, err := r.Bytes(0); len(b) != 0 || err != api.OK || r.Left() != 0 {
		t.Error("no bytes:", b, err, r.Left())
	}
}

// P9.2: a number is read of a most that is just reached, and of all above; of all below it is ErrCode.
func TestNumberMost(t *testing.T) {
	for _, n := range numbers() {
		for _, most := range []uint64{n, n | 1, max(n, 1<<63), topNumber} {
			r := New(Number(n))
			if got, err := r.Number(most); got != n || err != api.OK || r.Left() != 0 {
				t.Error(n, "of at most", most, got, err, r.Left())
			}
		}
		for _, most := range []uint64{0, n / 2, n - 1} {
			r := New(Number(n))
			if got, err := r.Number(most); n > 0 && (got != 0 || err != api.ErrCode || r.Left() != len(Number(n))) {
				t.Error(n, "of at most", most, got, err, r.Left())
			}
		}
	}
}

// P9.2: of a whole number its size counts, whichever sign it has; of a most below 0 there is none, not even 0.
func TestIntMost(t *testing.T) {
	for _, x := range wholes() {
		size := max(x, -x) // of the least one it is below 0: no most reaches that one's size
		for _, most := range []int64{size, max(size, 1<<62), topInt} {
			r := New(Int(x))
			got, err := r.Int(most)
			if x == leastInt {
				if got != 0 || err != api.ErrCode || r.Left() != 10 {
					t.Error("the least one of at most", most, got, err, r.Left())
				}
			} else if got != x || err != api.OK || r.Left() != 0 {
				t.Error(x, "of at most", most, got, err, r.Left())
			}
		}
		for _, most := range []int64{size - 1, size / 2, 0, -1, -2, -size, leastInt, leastInt + 1} {
			r := New(Int(x))
			if got, err := r.Int(most); (x != 0 || most < 0) && (x == leastInt || most < size) && (got != 0 || err != api.ErrCode || r.Left() != len(Int(x))) {
				t.Error(x, "of at most", most, got, err, r.Left())
			}
		}
	}
}

// P9.2: bytes are read of a most that is just reached, and of all above; of all below, and of one below 0, it is ErrCode.
func TestBytesMost(t *testing.T) {
	for _, count := range counts() {
		b := bytesOf(uint64(count), count)
		for _, most := range []int{count, count + 1, 1 << 20, math.MaxInt} {
			r := New(Bytes(b))
			if got, err := r.Bytes(most); !bytes.Equal(got, b) || err != api.OK || r.Left() != 0 {
				t.Error(count, "bytes of at most", most, short(got), err, r.Left())
			}
		}
		for _, most := range []int{count - 1, count / 2, 0, -1, -2, -count, math.MinInt, math.MinInt + 1} {
			r := New(Bytes(b))
			if got, err := r.Bytes(most); most < count && (got != nil || err != api.ErrCode || r.Left() != len(Bytes(b))) {
				t.Error(count, "bytes of at most", most, short(got), err, r.Left())
			}
		}
	}
}

// P9.2: a number's code that is cut off is none, wherever it is cut.
func TestCutOff(t *testing.T) {
	for _, n := range numbers() {
		code := Number(n)
		for end := range code {
			pairOf(t, code[:end]).refuses("cut off")
		}
	}
	for _, count := range counts() {
		code := Bytes(bytesOf(2, count))
		for _, end := range []int{0, 1, 2, 3, count / 2, count, len(code) - 2, len(code) - 1} {
			if end < 0 || end >= len(code) {
				continue
			}
			r := New(code[:end])
			if b, err := r.Bytes(math.MaxInt); b != nil || err != api.ErrCode || r.Left() != end {
				t.Error(count, "bytes cut off at", end, short(b), err, r.Left())
			}
		}
	}
}

// P9.2: a needless digit 0 behind, or more of them, whatever stands behind these.
func TestNeedless(t *testing.T) {
	for _, n := range append(numbers()[:40], 16383, 16384, 1<<56-1, 1<<62, topNumber>>1) {
		for zeros := 1; zeros <= 12; zeros++ {
			code := Number(n)
			code[len(code)-1] += 128
			code = append(code, filled(zeros-1, 128, 0)...)
			for _, tail := range tails() {
				pairOf(t, slices.Concat(code, tail)).refuses("needless")
			}
		}
	}
	pairOf(t, []byte{128, 0}).refuses("the document's own")
	pairOf(t, []byte{255, 255, 0}).refuses("behind two digits")
	pairOf(t, filled(9, 255, 0)).refuses("as the tenth digit")
}

// P9.2: a number above 2^64 - 1 is none, be it of ten digits or of more.
func TestAbove(t *testing.T) {
	for _, v := range []*big.Int{
		power(64, 0), power(64, 1), power(64, 127), power(64, 128), power(64, 300), power(65, -1), power(65, 0), power(66, -1), power(66, 0), power(69, 0), power(70, -1),
		power(70, 0), power(70, 1), power(71, 0), power(77, 0), power(127, 5), power(128, 0), power(128, 300), power(1000, 1),
	} {
		for _, tail := range tails() {
			pairOf(t, slices.Concat(digits(v), tail)).refuses("above 2^64 - 1")
		}
	}
	for last := byte(2); last >= 2; last++ {
		pairOf(t, filled(9, 255, last)).refuses("the tenth digit")
		pairOf(t, filled(9, 128, last, 0)).refuses("the tenth digit, and one behind")
	}
}

// P9.2: digits that go on without an end.
func TestEndless(t *testing.T) {
	for _, digit := range []byte{128, 129, 254, 255} {
		for _, count := range []int{1, 8, 9, 10, 11, 12, 18, 19, 20, 64, 1000, 1 << 20} {
			pairOf(t, filled(count, digit)).refuses("without an end")
			if count > 9 {
				pairOf(t, filled(count, digit, 0)).refuses("of too many digits, then 0")
				pairOf(t, filled(count, digit, 1)).refuses("of too many digits, then 1")
			}
		}
	}
}

// P9.2: bytes whose number is greater than the bytes that are left, by one and by far.
func TestBytesOfTooFew(t *testing.T) {
	for _, left := range []int{0, 1, 2, 127, 128, 129, 300} {
		behind := bytesOf(4, left)
		for _, count := range []uint64{uint64(left) + 1, uint64(left) + 2, 1000, 1 << 31, 1 << 32, 1<<63 - 11, 1<<63 - 1, 1 << 63, 1<<63 + 1, 1<<64 - 11, topNumber - 1, topNumber} {
			code := append(Number(count), behind...)
			for _, most := range []int{math.MaxInt, math.MaxInt - 1, left, 0} {
				r := New(code)
				if b, err := r.Bytes(most); b != nil || err != api.ErrCode || r.Left() != len(code) {
					t.Error(count, "bytes of", left, short(b), err, r.Left())
				}
				if n, err := r.Number(topNumber); n != count || err != api.OK || r.Left() != left {
					t.Error("behind it", n, err, r.Left())
				}
			}
		}
	}
}

// P9.2: a reader that has read all, and one of no bytes.
func TestAllRead(t *testing.T) {
	pairOf(t, nil).refuses("nil")
	pairOf(t, []byte{}).refuses("empty")
	for _, code := range [][]byte{Number(0), Number(300), Number(topNumber)} {
		p := pairOf(t, code)
		p.number(topNumber)
		p.refuses("all read")
	}
	p := pairOf(t, slices.Concat(Int(-5), Bytes([]byte{1, 2, 3})))
	p.whole(5)
	p.some(3)
	p.refuses("all read")
	if p.r.Left() != 0 {
		t.Error("left:", p.r.Left())
	}
}

// P9.2: with ErrCode nothing is read: the next reading begins at the same place, whichever kind it is.
func TestErrorReadsNothing(t *testing.T) {
	r := New(slices.Concat([]byte{0}, Bytes([]byte{9, 8, 7}), []byte{200}))
	if n, err := r.Number(topNumber); n != 0 || err != api.OK {
		t.Fatal("ahead:", n, err)
	}
	for range 3 {
		if n, err := r.Number(2); n != 0 || err != api.ErrCode || r.Left() != 5 {
			t.Error("a number above 2:", n, err, r.Left())
		}
		if x, err := r.Int(1); x != 0 || err != api.ErrCode || r.Left() != 5 {
			t.Error("a size above 1:", x, err, r.Left())
		}
		if b, err := r.Bytes(2); b != nil || err != api.ErrCode || r.Left() != 5 {
			t.Error("more than 2 bytes:", b, err, r.Left())
		}
	}
	if b, err := r.Bytes(3); !bytes.Equal(b, []byte{9, 8, 7}) || err != api.OK || r.Left() != 1 {
		t.Error("just 3 bytes:", b, err, r.Left())
	}
	p := pairOf(t, []byte{200})
	p.refuses("cut off")
	if n, err := r.Number(topNumber); n != 0 || err != api.ErrCode || r.Left() != 1 {
		t.Error("cut off:", n, err, r.Left())
	}
}

// mosts are those of which all kinds of reading are asked.
func mosts() []int64 {
	return []int64{0, 1, 2, 3, 63, 64, 65, 127, 128, 300, 1 << 40, topInt, -1, leastInt}
}

// P9.2: of each single byte, and of it with others behind that are edges, each kind of reading is the other reckoning's.
func TestShortBytes(t *testing.T) {
	var all [][]byte
	for a := range 256 {
		all = append(all, []byte{byte(a)})
		for _, b := range []byte{0, 1, 2, 3, 63, 64, 126, 127, 128, 129, 200, 254, 255} {
			all = append(all, []byte{byte(a), b}, []byte{byte(a), b, 0}, []byte{byte(a), b, 1})
		}
	}
	for _, b := range all {
		for _, most := range mosts() {
			pairOf(t, b).number(uint64(most))
			pairOf(t, b).whole(most)
			pairOf(t, b).some(int(most))
		}
	}
}

// walk reads bytes by calls of all kinds, in an order that the seed tells, till none finds a code.
func walk(t testing.TB, b []byte, seed uint64) {
	t.Helper()
	r := rand.New(rand.NewPCG(seed, 9))
	p := pairOf(t, b)
	for failed := 0; failed < 4; {
		most := []int64{r.Int64N(8), r.Int64N(1000), topInt, topInt, -1 - r.Int64N(3)}[r.IntN(5)]
		var err api.Errno
		switch r.IntN(3) {
		case 0:
			err = p.number(uint64(most))
		case 1:
			err = p.whole(most)
		default:
			err = p.some(int(most))
		}
		if err != api.OK {
			failed++
		}
	}
}

// P9.2: of any bytes, one reading behind the other, with ErrCode in between.
func TestAnyBytes(t *testing.T) {
	for seed := range uint64(6000) {
		walk(t, bytesOf(seed, int(seed%60)), seed)
	}
}
