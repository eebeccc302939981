package codec

import (
	"slices"

	"windbreak/api"
)

// mostDigits is how many a number has at most. The last of so many is 1: 9 digits are 63 bits.
const mostDigits = 10

// Reader reads codes, one behind the other.
type Reader struct {
	left []byte // those that are not read; they are never written to
}

// New is a reader of bytes, of which none is read.
func New(b []byte) *Reader {
	return &Reader{left: slices.Clone(b)}
}

// Left is how many bytes are left.
func (r *Reader) Left() int {
	return len(r.rest())
}

// Number reads a number of at most so much.
func (r *Reader) Number(most uint64) (uint64, api.Errno) {
	n, length := first(r.rest())
	if length == 0 || n > most {
		return 0, api.ErrCode
	}
	r.left = r.left[length:]
	return n, api.OK
}

// Int reads a whole number of at most such a size. That of the least one is above every most.
func (r *Reader) Int(most int64) (int64, api.Errno) {
	n, length := first(r.rest())
	size := n/2 + n%2
	if length == 0 || most < 0 || size > uint64(most) {
		return 0, api.ErrCode
	}
	r.left = r.left[length:]
	if n%2 == 1 {
		return -int64(size), api.OK
	}
	return int64(size), api.OK
}

// Bytes reads at most so many bytes.
func (r *Reader) Bytes(most int) ([]byte, api.Errno) {
	count, length := first(r.rest())
	if length == 0 || most < 0 || count > uint64(most) || count > uint64(r.Left()-length) {
		return nil, api.ErrCode
	}
	end := length + int(count)
	told := slices.Clone(r.left[length:end])
	r.left = r.left[end:]
	return told, api.OK
}

// rest is the bytes that are not read. A nil reader, which nobody should ask, has none: that way no call of it panics.
func (r *Reader) rest() []byte {
	if r == nil {
		return nil
	}
	return r.left
}

// first is the number with whose code the bytes begin, and how many of them that is: none, if they begin with no code.
func first(b []byte) (uint64, int) {
	var n uint64
digits:
	for i, digit := range b {
		n |= uint64(digit%base) << (7 * i)
		switch {
		case digit == 0 && i > 0: // needless
			break digits
		case digit > 1 && i == mostDigits-1: // above 2^64 - 1
			break digits
		case digit < base:
			return n, i + 1
		}
	}
	return 0, 0
}
