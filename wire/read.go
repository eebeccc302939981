package wire

import (
	"windbreak/api"
	"windbreak/codec"
	"windbreak/nat"
)

// mostBytes is how many a message's Nat has at most.
const mostBytes = 8 * mostLimbs

// read is the message whose parts a reader has, if each of them is a code, and nothing stands behind. That it may be is not asked.
func read(r *codec.Reader) (api.Msg, bool) {
	numbers, ok := things(r, 4, number)
	if !ok {
		return api.Msg{}, false
	}
	ids, ok1 := list(r, number)
	rows, ok2 := list(r, number)
	nats, ok3 := list(r, natural)
	m := api.Msg{Kind: numbers[0], A: numbers[1], B: numbers[2], C: numbers[3], Ids: ids, Rows: rows, Nats: nats}
	return m, ok1 && ok2 && ok3 && r.Left() == 0
}

// list reads how many things there are, and them.
func list[T any](r *codec.Reader, one func(*codec.Reader) (T, bool)) ([]T, bool) {
	count, err := r.Number(api.MaxList)
	if err != api.OK {
		return nil, false
	}
	return things(r, int(count), one)
}

// things reads so many, each by the function that reads one.
func things[T any](r *codec.Reader, count int, one func(*codec.Reader) (T, bool)) ([]T, bool) {
	var l []T
	for range count {
		thing, ok := one(r)
		if !ok {
			return nil, false
		}
		l = append(l, thing)
	}
	return l, true
}

// number reads a number such as a message has.
func number(r *codec.Reader) (int, bool) {
	n, err := r.Number(api.MaxSeq)
	return int(n), err == api.OK
}

// natural reads a Nat such as a message has. A needless byte 0 ahead, which nat.Read passes over, is nothing that was encoded.
func natural(r *codec.Reader) (api.Nat, bool) {
	b, err := r.Bytes(mostBytes)
	if err != api.OK || len(b) > 0 && b[0] == 0 {
		return nil, false
	}
	a, err := nat.Read(b)
	return a, err == api.OK
}
