package codec

import (
	"bytes"
	"math"
	"math/big"
	"math/rand/v2"
	"slices"
	"testing"

	"windbreak/api"
)

const (
	topNumber = uint64(math.MaxUint64)
	topInt    = int64(math.MaxInt64)
	leastInt  = int64(math.MinInt64)
)

// numbers are those that the document names, powers of 2 and of 128 and their neighbours, and others of each length.
func numbers() []uint64 {
	r := rand.New(rand.NewPCG(1, 9))
	l := []uint64{0, 1, 2, 126, 127, 128, 129, 255, 256, 300, topNumber - 1, topNumber}
	for bit := range 64 {
		p := uint64(1) << bit
		l = append(l, p-1, p, p+1, p|r.Uint64N(p), p|r.Uint64N(p))
	}
	slices.Sort(l)
	return slices.Compact(l)
}

// wholes are whole numbers of either sign, the greatest and the least among them.
func wholes() []int64 {
	l := []int64{leastInt}
	for _, n := range numbers() {
		if n <= uint64(topInt) {
			l = append(l, int64(n), -int64(n))
		}
	}
	slices.Sort(l)
	return slices.Compact(l)
}

// counts are how many bytes are made a code of.
func counts() []int {
	return []int{0, 1, 2, 3, 126, 127, 128, 129, 255, 256, 300, 16383, 16384, 16385, 70000}
}

// bytesOf are so many bytes, of which many are 0, 1, 128 or 255; they are the same for the same seed.
func bytesOf(seed uint64, count int) []byte {
	r := rand.New(rand.NewPCG(seed, 9))
	b := make([]byte, count)
	for i := range b {
		b[i] = []byte{0, 1, 127, 128, 129, 255, byte(r.Uint32()), byte(r.Uint32())}[r.IntN(8)]
	}
	return b
}

// tails are what may stand behind a code: what looks like more of it, like less, like another one.
func tails() [][]byte {
	return [][]byte{nil, {0}, {1}, {127}, {128}, {255}, {128, 0}, {128, 1}, {0, 0, 0}, bytes.Repeat([]byte{255}, 20), bytes.Repeat([]byte{128}, 20), bytesOf(3, 40)}
}

// power is 2 to the power of n, and so much more.
func power(n uint, more int64) *big.Int {
	return new(big.Int).Add(new(big.Int).Lsh(big.NewInt(1), n), big.NewInt(more))
}

// digits is the code of a number by another reckoning, of one above 2^64 - 1 too.
func digits(v *big.Int) []byte {
	var b []byte
	rest := new(big.Int)
	for {
		v, rest = new(big.Int).DivMod(v, big.NewInt(128), rest)
		b = append(b, byte(rest.Int64()))
		if v.Sign() == 0 {
			break
		}
	}
	for i := range len(b) - 1 {
		b[i] += 128
	}
	return b
}

// folded is the number whose code a whole number has, by the other reckoning; unfolded is back again.
func folded(x *big.Int) *big.Int {
	v := new(big.Int).Lsh(new(big.Int).Abs(x), 1)
	if x.Sign() < 0 {
		v.Sub(v, big.NewInt(1))
	}
	return v
}

func unfolded(v *big.Int) *big.Int {
	x := new(big.Int).Rsh(new(big.Int).Add(v, big.NewInt(1)), 1)
	if v.Bit(0) == 1 {
		x.Neg(x)
	}
	return x
}

// begins is the number with whose code bytes begin, and how long that is, by the other reckoning: nil, if there is none.
func begins(b []byte) (*big.Int, int) {
	end := slices.IndexFunc(b, func(digit byte) bool { return digit < 128 }) + 1
	if end > 200 {
		return nil, 0 // far too long, and slow to reckon
	}
	v := new(big.Int)
	for _, digit := range slices.Backward(b[:end]) {
		v.Or(v.Lsh(v, 7), big.NewInt(int64(digit&127)))
	}
	if end == 0 || v.BitLen() > 64 || !bytes.Equal(digits(v), b[:end]) {
		return nil, 0
	}
	return v, end
}

// pair is a reader, and what is left of its bytes by the other reckoning. Each of its calls asks the reader, and that the answer, the error and what is left are as they must be.
type pair struct {
	t    testing.TB
	r    *Reader
	left []byte
}

func pairOf(t testing.TB, b []byte) *pair {
	t.Helper()
	p := &pair{t: t, r: New(b), left: slices.Clone(b)}
	if p.r == nil || p.r.Left() != len(b) {
		t.Fatal("a reader of", len(b), "bytes:", p.r)
	}
	return p
}

// compare asks of an answer what it is, and goes on by so many bytes: none with an error.
func (p *pair) compare(what string, same bool, err, want api.Errno, used int) {
	p.t.Helper()
	if want != api.OK {
		used = 0
	}
	if !same || err != want || p.r.Left() != len(p.left)-used {
		p.t.Errorf("%s of %v: right %v, error %d, %d left; asked error %d, %d left", what, short(p.left), same, err, p.r.Left(), want, len(p.left)-used)
	}
	p.left = p.left[used:]
}

// short is the beginning of bytes, enough to tell them.
func short(b []byte) []byte { return b[:min(len(b), 24)] }

func (p *pair) number(most uint64) api.Errno {
	p.t.Helper()
	v, used := begins(p.left)
	want, wantErr := uint64(0), api.ErrCode
	if v != nil && v.Uint64() <= most {
		want, wantErr = v.Uint64(), api.OK
	}
	got, err := p.r.Number(most)
	p.compare("Number", got == want, err, wantErr, used)
	return err
}

func (p *pair) whole(most int64) api.Errno {
	p.t.Helper()
	v, used := begins(p.left)
	want, wantErr := int64(0), api.ErrCode
	if v != nil && unfolded(v).CmpAbs(big.NewInt(most)) <= 0 && most >= 0 {
		want, wantErr = unfolded(v).Int64(), api.OK
	}
	got, err := p.r.Int(most)
	p.compare("Int", got == want, err, wantErr, used)
	return err
}

func (p *pair) some(most int) api.Errno {
	p.t.Helper()
	v, used := begins(p.left)
	var want []byte
	wantErr := api.ErrCode
	if v != nil && v.Cmp(big.NewInt(int64(most))) <= 0 && v.Cmp(big.NewInt(int64(len(p.left)-used))) <= 0 {
		end := used + int(v.Int64())
		want, wantErr, used = p.left[used:end], api.OK, end
	}
	got, err := p.r.Bytes(most)
	p.compare("Bytes", bytes.Equal(got, want) && (err == api.OK || got == nil), err, wantErr, used)
	return err
}

// refuses asks that each kind of reading is ErrCode, whatever most is, and reads nothing.
func (p *pair) refuses(what string) {
	p.t.Helper()
	for range 2 { // again: the first one changed nothing
		for _, most := range []int64{topInt, 1 << 32, 1, 0, -1, leastInt} {
			n, err1 := p.r.Number(uint64(most))
			x, err2 := p.r.Int(most)
			b, err3 := p.r.Bytes(int(most))
			if err1 != api.ErrCode || err2 != api.ErrCode || err3 != api.ErrCode || n != 0 || x != 0 || b != nil || p.r.Left() != len(p.left) {
				p.t.Errorf("%s: of %v is told %d, %d, %v, errors %d, %d, %d, %d left", what, short(p.left), n, x, b, err1, err2, err3, p.r.Left())
			}
		}
	}
}
