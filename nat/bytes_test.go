package nat

import (
	"bytes"
	"math/big"
	"math/rand/v2"
	"testing"

	"windbreak/api"
)

// P1.4: a number's bytes, by another reckoning; none of 0, and of what may not be.
func TestBytes(t *testing.T) {
	for _, a := range samples() {
		if got, want := Bytes(a), toBig(a).Bytes(); !bytes.Equal(got, want) {
			t.Error(a, got, want)
		}
	}
	if b := Bytes(api.Nat{258}); !bytes.Equal(b, []byte{1, 2}) {
		t.Error("258:", b)
	}
	if b := Bytes(power(64)); !bytes.Equal(b, []byte{1, 0, 0, 0, 0, 0, 0, 0, 0}) {
		t.Error("2^64:", b)
	}
	for _, w := range append(wrong(), nil) {
		if len(Bytes(w)) != 0 {
			t.Error("none:", w, Bytes(w))
		}
	}
}

// P1.4: bytes of each length, with and without bytes 0 ahead.
func TestRead(t *testing.T) {
	r := rand.New(rand.NewPCG(5, 5))
	for n := range 530 {
		b := make([]byte, n)
		for i := range b {
			b[i] = byte(r.Uint32())
		}
		want := new(big.Int).SetBytes(b)
		a, err := Read(b)
		checkNat(t, "bytes", a, err, want)
		a, err = Read(append(make([]byte, r.IntN(600)), b...))
		checkNat(t, "bytes behind 0", a, err, want)
	}
}

// P1.4: no bytes, bytes 0 alone, the last bytes that fit and the first that do not.
func TestReadEdges(t *testing.T) {
	for _, b := range [][]byte{nil, {}, {0}, {0, 0, 0}, make([]byte, 513), make([]byte, 100000)} {
		if a, err := Read(b); err != api.OK || len(a) != 0 {
			t.Error("0 of", len(b), "bytes:", a, err)
		}
	}
	full := bytes.Repeat([]byte{255}, 512)
	for _, ahead := range []int{0, 1, 7, 8, 1000} {
		if a, err := Read(append(make([]byte, ahead), full...)); err != api.OK || !same(a, filled(64, top)) {
			t.Error("512 bytes behind", ahead, "of 0:", err)
		}
	}
	long := append([]byte{1}, make([]byte, 512)...)
	if a, err := Read(long); err != api.ErrNatLong || a != nil {
		t.Error("2^4096:", a, err)
	}
	if a, err := Read(append([]byte{0, 0}, long...)); err != api.ErrNatLong || a != nil {
		t.Error("2^4096 behind 0:", a, err)
	}
	if a, err := Read(bytes.Repeat([]byte{1}, 100000)); err != api.ErrNatLong || a != nil {
		t.Error("many bytes:", err)
	}
}
