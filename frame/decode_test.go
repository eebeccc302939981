package frame

import (
	"bytes"
	"encoding/binary"
	"hash/crc32"
	"math"
	"slices"
	"testing"

	"windbreak/api"
)

// P10.2: frames written out, sums and all.
func TestDecode(t *testing.T) {
	accepts(t, "no Data", []byte{0, 0, 0, 0, 33, 68, 223, 28}, api.Frame{})
	accepts(t, "Data", []byte{1, 0, 0, 0, 0x99, 0xf8, 0xb8, 0x79}, api.Frame{Data: true})
	accepts(t, "an Ack", []byte{0, 0, 1, 0, 0x38, 0x5f, 0xee, 0x5d}, api.Frame{Ack: 1})
	accepts(t, "all", []byte{1, 172, 2, 7, 2, 'h', 'i', 0x28, 0x1c, 0x82, 0xbb}, api.Frame{Data: true, Seq: 300, Ack: 7, Body: []byte("hi")})
	for _, n := range seqs() {
		accepts(t, "a Seq", sealed([]byte{1}, number(uint64(n)), []byte{0, 0}), api.Frame{Data: true, Seq: n})
		accepts(t, "an Ack", sealed([]byte{1, 0}, number(uint64(n)), []byte{0}), api.Frame{Data: true, Ack: n})
		accepts(t, "no Data, an Ack", sealed([]byte{0, 0}, number(uint64(n)), []byte{0}), api.Frame{Ack: n})
	}
}

// P10.2: none at all, and all that is too short to be a frame, sums of their own behind it or not.
func TestDecodeOfTooFew(t *testing.T) {
	for _, b := range [][]byte{nil, {}, make([]byte, 0, 9)} {
		refuses(t, "none at all", b)
	}
	for count := range 8 {
		for _, x := range []byte{0, 1, 2, 127, 128, 255} {
			refuses(t, "few bytes", bytes.Repeat([]byte{x}, count))
		}
	}
	for _, parts := range [][]byte{nil, {0}, {1}, {0, 0}, {1, 0}, {1, 1}, {0, 0, 0}, {1, 0, 0}, {1, 1, 1}} {
		refuses(t, "parts missing", sealed(parts))
	}
}

// P10.2: a frame that is cut off is none, wherever it is cut; nor is one whose beginning is missing.
func TestDecodeOfCutOff(t *testing.T) {
	for _, f := range frames() {
		b := encoded(f)
		for end := range b {
			if len(b) < 300 || end < 40 || end > len(b)-40 {
				refuses(t, "cut off", b[:end])
				refuses(t, "cut off ahead", b[end+1:])
			}
		}
	}
}

// P10.2: one byte too many behind, whichever it is, or more; or one ahead.
func TestDecodeOfTooMany(t *testing.T) {
	for _, f := range frames()[:120] {
		b := encoded(f)
		for x := range 256 {
			refuses(t, "behind", append(slices.Clone(b), byte(x)))
			refuses(t, "ahead", append([]byte{byte(x)}, b...))
		}
		refuses(t, "twice", append(slices.Clone(b), b...))
		refuses(t, "bytes behind the sum, and the sum again", append(slices.Clone(b), b[len(b)-4:]...))
	}
}

// P10.2: one byte too many within a right sum.
func TestDecodeOfTooManyWithin(t *testing.T) {
	for _, f := range frames() {
		parts := encoded(f)
		parts = parts[:len(parts)-4]
		for _, tail := range [][]byte{{0}, {1}, {128}, {255}, {0, 0, 0, 0}, parts} {
			refuses(t, "behind the parts", sealed(parts, tail))
		}
	}
}

// P10.2: a first byte of 2 and more, with a right sum.
func TestDecodeOfOtherKinds(t *testing.T) {
	for x := 2; x < 256; x++ {
		refuses(t, "of nothing else", sealed([]byte{byte(x), 0, 0, 0}))
		refuses(t, "of a Seq and a Body", sealed([]byte{byte(x)}, number(300), number(7), some([]byte("hi"))))
		refuses(t, "of an Ack", sealed([]byte{byte(x), 0, 9, 0}))
		refuses(t, "of a needless digit", sealed([]byte{byte(x), 0, 0, 0, 0}))
		refuses(t, "of a digit more", sealed([]byte{byte(x), 1, 0, 0, 0}))
	}
}

// P10.2: a sum that is wrong in any of its bytes, by any number; one with its bytes in another order; another sum.
func TestDecodeOfWrongSum(t *testing.T) {
	for _, f := range []api.Frame{{}, {Ack: 9}, {Data: true}, {Data: true, Seq: 300, Ack: 7, Body: []byte("hi")}, {Data: true, Seq: 1 << 30, Ack: 1 << 30, Body: bytesOf(3, 200)}} {
		b := encoded(f)
		end := len(b) - 4
		for i := end; i < len(b); i++ {
			for x := 1; x < 256; x++ {
				c := slices.Clone(b)
				c[i] ^= byte(x)
				refuses(t, "a wrong sum", c)
			}
		}
		sum := crc32.ChecksumIEEE(b[:end])
		refuses(t, "the lowest first", binary.LittleEndian.AppendUint32(slices.Clone(b[:end]), sum))
		for _, other := range []uint32{0, math.MaxUint32, ^sum, sum + 1, sum - 1, ownSum, crc32.Checksum(b[:end], crc32.MakeTable(crc32.Castagnoli))} {
			if other != sum {
				refuses(t, "another sum", binary.BigEndian.AppendUint32(slices.Clone(b[:end]), other))
			}
		}
	}
	for x := range 256 { // a sum whose bytes are all the same, whichever they are
		refuses(t, "one byte four times", append([]byte{0, 0, 0, 0}, bytes.Repeat([]byte{byte(x)}, 4)...))
	}
}

// needless is a number's code with a needless digit 0 behind, or more of them.
func needless(n uint64, zeros int) []byte {
	b := number(n)
	b[len(b)-1] += 128
	return append(append(b, bytes.Repeat([]byte{128}, zeros-1)...), 0)
}

// P10.2: a needless digit, in each of the numbers, with a right sum.
func TestDecodeOfNeedless(t *testing.T) {
	for _, n := range []uint64{0, 1, 2, 127, 128, 300, 1 << 29, 1 << 30} {
		for zeros := 1; zeros <= 11; zeros++ {
			refuses(t, "Seq", sealed([]byte{1}, needless(n, zeros), []byte{0, 0}))
			refuses(t, "Ack", sealed([]byte{1, 0}, needless(n, zeros), []byte{0}))
			refuses(t, "Ack of no Data", sealed([]byte{0, 0}, needless(n, zeros), []byte{0}))
		}
	}
	for _, count := range []int{0, 1, 2, 127, 128, 300} {
		refuses(t, "how many the Body has", sealed([]byte{1, 0, 0}, needless(uint64(count), 1), bytesOf(1, count)))
	}
	refuses(t, "the first byte", sealed([]byte{129, 0, 0, 0, 0}))
	refuses(t, "the first byte, no Data", sealed([]byte{128, 0, 0, 0, 0}))
	refuses(t, "Seq of no Data", sealed([]byte{0}, needless(0, 1), []byte{0, 0}))
}

// P10.2: a Seq or an Ack above 2^30, with a right sum; those that would be right if they were cut off to fewer bits among them.
func TestDecodeOfGreatNumbers(t *testing.T) {
	for _, n := range []uint64{1<<30 + 1, 1<<30 + 2, 1<<31 - 1, 1 << 31, 1<<31 + 1, 1 << 32, 1<<32 + 5, 1<<35 + 1, 1 << 62, 1<<63 - 1, 1 << 63, 1<<63 + 7, math.MaxUint64 - 1, math.MaxUint64} {
		refuses(t, "Seq", sealed([]byte{1}, number(n), []byte{0, 0}))
		refuses(t, "Ack", sealed([]byte{1, 0}, number(n), []byte{0}))
		refuses(t, "Ack of no Data", sealed([]byte{0, 0}, number(n), []byte{0}))
		refuses(t, "both", sealed([]byte{1}, number(n), number(n), []byte{0}))
		refuses(t, "Seq of no Data", sealed([]byte{0}, number(n), []byte{0, 0}))
	}
	beyond := append(bytes.Repeat([]byte{128}, 9), 2) // 2^64
	endless := bytes.Repeat([]byte{255}, 40)
	for _, code := range [][]byte{beyond, endless, append(endless, 1)} {
		refuses(t, "Seq", sealed([]byte{1}, code, []byte{0, 0}))
		refuses(t, "Ack", sealed([]byte{1, 0}, code, []byte{0}))
		refuses(t, "how many the Body has", sealed([]byte{1, 0, 0}, code, []byte{0}))
	}
}

// P10.2: a Body that is too long, and one that is not, with a right sum.
func TestDecodeOfLongBody(t *testing.T) {
	b := bytesOf(4, 2*1048576)
	for _, count := range []int{1048575, 1048576} {
		accepts(t, "a long Body", sealed([]byte{1, 5, 6}, some(b[:count])), api.Frame{Data: true, Seq: 5, Ack: 6, Body: b[:count]})
		refuses(t, "a long Body, no Data", sealed([]byte{0, 0, 6}, some(b[:count])))
	}
	for _, count := range []int{1048577, 1048578, 1 << 21} {
		refuses(t, "too long", sealed([]byte{1, 5, 6}, some(b[:count])))
	}
}

// P10.2: a Body that has fewer bytes than it says, or more, with a right sum.
func TestDecodeOfWrongCount(t *testing.T) {
	for _, count := range []int{0, 1, 2, 126, 127, 128, 129, 300} {
		b := bytesOf(5, count)
		for _, says := range []uint64{uint64(count) + 1, uint64(count) + 2, 1048576, 1048577, 1 << 31, 1 << 32, 1<<32 + uint64(count), math.MaxInt64, math.MaxUint64} {
			refuses(t, "fewer", sealed([]byte{1, 5, 6}, number(says), b))
		}
		for says := range min(count, 130) {
			refuses(t, "more", sealed([]byte{1, 5, 6}, number(uint64(says)), b))
		}
	}
}

// P10.2: no Data with a Seq, or a Body, with a right sum.
func TestDecodeOfNoData(t *testing.T) {
	for _, n := range seqs()[1:] {
		refuses(t, "a Seq", sealed([]byte{0}, number(uint64(n)), []byte{0, 0}))
		refuses(t, "a Seq and an Ack", sealed([]byte{0}, number(uint64(n)), number(uint64(n)), []byte{0}))
		refuses(t, "a Seq and a Body", sealed([]byte{0}, number(uint64(n)), []byte{0, 1, 7}))
	}
	for _, body := range [][]byte{{0}, {1}, {0, 0}, bytesOf(6, 300)} {
		refuses(t, "a Body", sealed([]byte{0, 0, 0}, some(body)))
		refuses(t, "a Body and an Ack", sealed([]byte{0, 0, 9}, some(body)))
	}
}

// P10.2: all bytes of some length that are made of the telling ones, right sums behind them: just the codes of frames are frames.
func TestDecodeOfAll(t *testing.T) {
	telling := []byte{0, 1, 2, 4, 127, 128, 129, 255}
	right, wrong := 0, 0
	for count := range 7 {
		for n := range 1 << (3 * count) {
			parts := make([]byte, count)
			for i := range parts {
				parts[i] = telling[n>>(3*i)&7]
			}
			if checkDecode(t, sealed(parts)) {
				right++
			} else {
				wrong++
			}
		}
	}
	if right < 1000 || wrong < 100000 {
		t.Error("how many were frames, and how many not:", right, wrong)
	}
}

// P10.2: any bytes, right sums behind them or not, and frames with some bytes put, taken or moved.
func TestDecodeOfAny(t *testing.T) {
	r := seeded(7)
	all := frames()
	for range 20000 {
		b := bytesOf(r.Uint64(), r.IntN(20))
		checkDecode(t, b)
		checkDecode(t, sealed(b))
		f := encoded(all[r.IntN(len(all))])
		from, to := r.IntN(len(f)+1), r.IntN(len(f)+1)
		from, to = min(from, to), max(from, to)
		checkDecode(t, slices.Concat(f[:from], b, f[to:]))
		checkDecode(t, sealed(f[:from], b, f[to:]))
		checkDecode(t, slices.Concat(f[from:], f[:from]))
	}
}
