package paillier

import (
	"windbreak/api"
	"windbreak/nat"
	"windbreak/tape"
)

// Encrypt hides a number below n behind another one.
func Encrypt(n, m, r api.Nat) (api.Nat, api.Errno) {
	if err := faultOf(n, plain(m), hider(r)); err != api.OK {
		return nil, err
	}
	return product(n, bare(n, m), cover(n, r)), api.OK
}

// Draw hides a number below n behind one that comes from a tape.
func Draw(n, m api.Nat, t *tape.Tape) (api.Nat, api.Errno) {
	if err := faultOf(n, plain(m)); err != api.OK {
		return nil, err
	}
	if t == nil {
		return nil, api.ErrArg
	}
	r, err := drawnHider(n, t)
	if err != api.OK {
		return nil, err
	}
	return Encrypt(n, m, r)
}

// Again hides the same as a cipher text, behind another number.
func Again(n, c, r api.Nat) (api.Nat, api.Errno) {
	if err := faultOf(n, cipher(c), hider(r)); err != api.OK {
		return nil, err
	}
	return product(n, c, cover(n, r)), api.OK
}

// drawnHider is the first draw below n that is a hider. Each draw uses bytes of the tape, so it comes to an end.
func drawnHider(n api.Nat, t *tape.Tape) (api.Nat, api.Errno) {
	for {
		r, err := t.Below(n)
		if err != api.OK {
			return nil, err
		}
		if isHider(n, r) {
			return r, api.OK
		}
	}
}

// bare is a plain text as a cipher text that is hidden behind 1, so that anybody can tell it: 1 and m times n.
func bare(n, m api.Nat) api.Nat {
	return sure(nat.Add, nat.Of(1), sure(nat.Mul, m, n))
}

// cover is what hides a cipher text: a hider to the power of n. It hides 0 itself, so that it changes no sum.
func cover(n, r api.Nat) api.Nat {
	return power(n, r, n)
}
