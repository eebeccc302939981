package tape

import (
	"bytes"
	"math/big"
	"math/rand/v2"
	"slices"
	"testing"

	"windbreak/api"
	"windbreak/nat"
)

const top = ^uint64(0)

// number is limbs as a number of another reckoning than the program's own; limbs is back again.
func number(a api.Nat) *big.Int { return new(big.Int).SetBytes(nat.Bytes(a)) }

func limbs(v *big.Int) api.Nat {
	a, _ := nat.Read(v.Bytes())
	return a
}

// filled is so many limbs, each the same; power is 2 to the power of n, and so many more.
func filled(count int, limb uint64) api.Nat { return slices.Repeat(api.Nat{limb}, count) }

func power(n int, more int64) api.Nat {
	v := new(big.Int).Lsh(big.NewInt(1), uint(n))
	return limbs(v.Add(v, big.NewInt(more)))
}

// bounds are those below which is drawn: the edges that the document names, powers of 2 and their neighbours, others of many lengths.
func bounds() []api.Nat {
	r := rand.New(rand.NewPCG(1, 4))
	l := []api.Nat{{1}, {2}, {3}, {4}, {5}, {6}, {7}, {100}, {10_000}, {1_000_003}, {top}, {5, 6}, filled(8, 1), filled(63, top), filled(64, 1), filled(64, top)}
	for _, n := range []int{3, 7, 8, 9, 15, 16, 17, 31, 32, 33, 63, 64, 65, 71, 72, 73, 128, 511, 512, 2048, 4032, 4087, 4088, 4089, 4095} {
		l = append(l, power(n, -1), power(n, 0), power(n, 1))
	}
	for count := 1; count <= api.MaxLimbs; count += 7 {
		a := make(api.Nat, count)
		for i := range a {
			a[i] = r.Uint64() | 1
		}
		l = append(l, a)
	}
	return l
}

// wrong are those below which nothing is drawn: 0, and limbs that are no number's.
func wrong() []api.Nat {
	return []api.Nat{nil, {}, {0}, {1, 0}, {5, 0}, {0, 0}, {top, top, 0}, append(filled(63, 1), 0), filled(65, 1), filled(65, 0), filled(1000, 3)}
}

// bytesOf are so many bytes, of which many are 0 or 255; they are the same for the same seed.
func bytesOf(seed uint64, count int) []byte {
	r := rand.New(rand.NewPCG(seed, 4))
	b := make([]byte, count)
	for i := range b {
		b[i] = []byte{0, 255, byte(r.Uint32()), byte(r.Uint32())}[r.IntN(4)]
	}
	return b
}

// of is the tape of bytes.
func of(t testing.TB, b ...byte) *Tape {
	t.Helper()
	x, err := New(b)
	if err != api.OK || x == nil {
		t.Fatalf("a tape of %d bytes: error %d", len(b), err)
	}
	return x
}

// left asks how many bytes are left of a tape, and takes these, which must be just those.
func left(t *testing.T, what string, x *Tape, want []byte) {
	t.Helper()
	if x.Left() != len(want) {
		t.Errorf("%s: %d bytes are left; asked %d", what, x.Left(), len(want))
		return
	}
	if b, err := x.Take(len(want)); err != api.OK || !bytes.Equal(b, want) {
		t.Errorf("%s: left are %v, error %d; asked %v", what, b, err, want)
	}
}

// script is a draw below n by another reckoning: the number, how many bytes are used, and the error.
func script(b []byte, n api.Nat) (api.Nat, int, api.Errno) {
	v := number(n)
	width := new(big.Int).Sub(v, big.NewInt(1)).BitLen()
	if width == 0 {
		return nil, 0, api.OK
	}
	size, used := (width+7)/8, 0
	for used+size <= len(b) {
		x := new(big.Int).SetBytes(b[used : used+size])
		x.Mod(x, new(big.Int).Lsh(big.NewInt(1), uint(width)))
		used += size
		if x.Cmp(v) < 0 {
			return limbs(x), used, api.OK
		}
	}
	return nil, used, api.ErrTapeEnd
}

// checkBelow asks of draws below n from the bytes, one behind the other till the tape ends, that each is the other reckoning's, as is what is left; so many draws at most.
func checkBelow(t *testing.T, b []byte, n api.Nat, draws int) {
	t.Helper()
	x := of(t, b...)
	for range draws {
		want, used, end := script(b, n)
		b = b[used:]
		got, err := x.Below(n)
		if err != end || !slices.Equal(got, want) || x.Left() != len(b) {
			t.Fatalf("below %v: %v, error %d, %d left; asked %v, error %d, %d left", n, got, err, x.Left(), want, end, len(b))
		}
		if err != api.OK {
			break
		}
	}
	left(t, "behind the draws", x, b)
}
