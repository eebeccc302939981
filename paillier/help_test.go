package paillier

import (
	"bytes"
	"math/big"
	"math/rand/v2"
	"slices"
	"testing"

	"windbreak/api"
	"windbreak/nat"
	"windbreak/tape"
)

const top = ^uint64(0)

var one = big.NewInt(1)

// number is limbs as a number of another reckoning than the program's own; limbs is back again.
func number(a api.Nat) *big.Int { return new(big.Int).SetBytes(nat.Bytes(a)) }

func limbs(v *big.Int) api.Nat {
	a, _ := nat.Read(v.Bytes())
	return a
}

// more is a number and so many more, or less; times is so many times it; twoTo is 2 to the power of a number, and so many more.
func more(a api.Nat, by int64) api.Nat {
	v := number(a)
	return limbs(v.Add(v, big.NewInt(by)))
}

func times(a api.Nat, by uint64) api.Nat {
	return limbs(new(big.Int).Mul(number(a), new(big.Int).SetUint64(by)))
}

func twoTo(n int, by int64) api.Nat {
	return more(limbs(new(big.Int).Lsh(one, uint(n))), by)
}

// filled is so many limbs, each the same.
func filled(count int, limb uint64) api.Nat { return slices.Repeat(api.Nat{limb}, count) }

// wrong are limbs that are no number's.
func wrong() []api.Nat {
	return []api.Nat{{0}, {1, 0}, {17947, 0}, {5, 0, 0}, {0, 0}, {top, top, 0}, append(filled(63, 1), 0), filled(65, 1), filled(65, 0), filled(1000, 3)}
}

// primeFrom is the first prime from n on; primeDown the first one downwards.
func primeFrom(n uint64) uint64 {
	for !new(big.Int).SetUint64(n).ProbablyPrime(0) {
		n++
	}
	return n
}

func primeDown(n uint64) uint64 {
	for !new(big.Int).SetUint64(n).ProbablyPrime(0) {
		n--
	}
	return n
}

// keysOf are those of primes of so many bits: the two least, the two greatest, the least and the greatest, two within.
func keysOf(length int) []api.Key {
	r := rand.New(rand.NewPCG(uint64(length), 6))
	low := uint64(1) << (length - 1)
	least, most := primeFrom(low), primeDown(2*low-1)
	within := primeFrom(low + r.Uint64N(low/4))
	return []api.Key{{P: least, Q: primeFrom(least + 1)}, {P: most, Q: primeDown(most - 1)}, {P: least, Q: most}, {P: primeFrom(within + low/4), Q: within}}
}

// keys are those of each length.
func keys() []api.Key {
	var l []api.Key
	for length := api.MinPrime; length <= api.MaxPrime; length++ {
		l = append(l, keysOf(length)...)
	}
	return l
}

// fewKeys are those of some lengths: of 15, 16, 63, 64, 65, 79 and 80 bits, and others.
func fewKeys() []api.Key {
	return slices.Concat(keysOf(8), keysOf(9), keysOf(17), keysOf(32), keysOf(33), keysOf(40))
}

// wrongKeys are those that may not be: no primes, the same twice, of not as many bits, too short, too long.
func wrongKeys() []api.Key {
	const last = uint64(1099511627689) // the greatest prime below 2^40
	long := primeFrom(1 << 40)
	return []api.Key{
		{}, {P: 131}, {Q: 137}, {P: 1, Q: 1}, {P: 131, Q: 131}, {P: 131, Q: 257}, {P: 257, Q: 131}, {P: 131, Q: 135}, {P: 133, Q: 137}, {P: 129, Q: 255}, {P: 128, Q: 131},
		{P: 113, Q: 127}, {P: 127, Q: 131}, {P: 131, Q: 127}, {P: 3, Q: 5}, {P: last, Q: last}, {P: last, Q: last - 2}, {P: last, Q: long}, {P: long, Q: primeFrom(long + 1)}, {P: top, Q: top}, {P: top, Q: 131},
		{P: last, Q: 131}, {P: last, Q: primeDown(1<<39 - 1)},
	}
}

// of is the public part of a key by another reckoning.
func of(k api.Key) api.Nat {
	return limbs(new(big.Int).Mul(new(big.Int).SetUint64(k.P), new(big.Int).SetUint64(k.Q)))
}

// bases are public keys: those of some keys, and others that are no product of two such primes, among them primes, squares, and products of many.
func bases() []api.Nat {
	l := []api.Nat{twoTo(14, 1), twoTo(14, 3), twoTo(15, -1), {16411}, {129 * 129}, {255255}, {4849845}, {3486784401}, {top}, {1, 1}, {top, 1}, {1, 1 << 15}, twoTo(79, 1), twoTo(80, -3), twoTo(80, -1)}
	for _, k := range fewKeys() {
		l = append(l, of(k))
	}
	return l
}

// wrongBases are numbers that may not be public keys, and limbs that may not be a number: too short, too long, even.
func wrongBases() []api.Nat {
	l := []api.Nat{nil, {}, {1}, {2}, {3}, {15}, {255}, {8191}, twoTo(13, 1), twoTo(14, -1), twoTo(14, -3), twoTo(14, 0), twoTo(14, 2), {17946}, {17948}, {top - 1}, {0, 1}, {2, 1},
		twoTo(79, 0), twoTo(80, -2), twoTo(80, 0), twoTo(80, 1), twoTo(80, 3), twoTo(81, -1), {1, 1 << 16}, {1, top}, filled(3, 1), filled(64, top)}
	return append(l, wrong()...)
}

// may tells by another reckoning whether n may be a public key.
func may(n api.Nat) bool {
	v := number(n)
	return slices.Equal(limbs(v), n) && v.Bit(0) == 1 && v.Cmp(big.NewInt(1<<14)) >= 0 && v.Cmp(number(twoTo(80, 0))) < 0
}

// isApart tells by another reckoning whether a number has no common divisor with n but 1.
func isApart(n, a api.Nat) bool {
	return new(big.Int).GCD(nil, nil, number(a), number(n)).Cmp(one) == 0
}

// kind is what an argument must be.
type kind int

const (
	aCipher kind = iota
	aPlain
	aHider
)

// fault is the promise's words on an argument by another reckoning: OK, or its error.
func (k kind) fault(n, a api.Nat) api.Errno {
	v, bound := number(a), number(n)
	if k == aCipher {
		bound.Mul(bound, bound)
	}
	right := slices.Equal(limbs(v), a) && v.Cmp(bound) < 0
	if k != aPlain {
		right = right && v.Sign() > 0 && isApart(n, a)
	}
	if right {
		return api.OK
	}
	return map[kind]api.Errno{aCipher: api.ErrCipher, aPlain: api.ErrPlain, aHider: api.ErrArg}[k]
}

// some are numbers of which many are what an argument must be, and many are not: the edges of plain texts, of hiders and of cipher texts, divisors and their multiples.
func some(n api.Nat) []api.Nat {
	r := rand.New(rand.NewPCG(n[0], 6))
	v := number(n)
	all := limbs(new(big.Int).Mul(v, v))
	l := []api.Nat{nil, {}, {1}, {2}, {3}, more(n, -2), more(n, -1), n, more(n, 1), times(n, 2), more(times(n, 7), 1), more(all, -2), more(all, -1), all, more(all, 1), more(all, 2), times(all, 5), filled(4, top), filled(64, 1)}
	l = append(l, limbs(new(big.Int).Sub(number(all), v)))
	for range 3 {
		l = append(l, drawnBelow(r, n), drawnBelow(r, all))
	}
	return append(l, wrong()...)
}

// divided are multiples of a key's two primes, below n and above it.
func divided(k api.Key) []api.Nat {
	n := of(k)
	p, q := nat.Of(k.P), nat.Of(k.Q)
	return []api.Nat{p, q, times(p, 2), times(q, 3), times(p, k.Q-1), times(q, k.P-1), times(p, k.P), times(q, k.Q), times(n, k.P), times(n, k.Q-1), times(p, k.Q+1), times(times(n, k.P-1), k.Q)}
}

// drawnBelow is some number below another one.
func drawnBelow(r *rand.Rand, n api.Nat) api.Nat {
	a := make(api.Nat, len(n)+1)
	for i := range a {
		a[i] = r.Uint64()
	}
	return limbs(new(big.Int).Mod(number(append(a, 1)), number(n)))
}

// right are the numbers among some that are what an argument must be.
func right(n api.Nat, k kind, among []api.Nat) []api.Nat {
	var l []api.Nat
	for _, a := range among {
		if k.fault(n, a) == api.OK {
			l = append(l, a)
		}
	}
	return l
}

// call is one of the calls that take a public key and two numbers: what these must be, and its answer by another reckoning.
type call struct {
	name   string
	kinds  [2]kind
	ask    func(n, a, b api.Nat) (api.Nat, api.Errno)
	answer func(n, square, a, b *big.Int) *big.Int
}

// calls are these, all of them. A plain text is hidden by a power of n and 1, which is 1 and m times n.
func calls() []call {
	by := func(square, a, b *big.Int) *big.Int { return a.Mod(a.Mul(a, b), square) }
	raised := func(square, a, e *big.Int) *big.Int { return new(big.Int).Exp(a, e, square) }
	bared := func(n, square, m *big.Int) *big.Int { return raised(square, new(big.Int).Add(n, one), m) }
	return []call{
		{"Encrypt", [2]kind{aPlain, aHider}, Encrypt, func(n, square, m, r *big.Int) *big.Int {
			return by(square, bared(n, square, m), raised(square, r, n))
		}},
		{"Add", [2]kind{aCipher, aCipher}, Add, func(n, square, c, d *big.Int) *big.Int { return by(square, c, d) }},
		{"Plain", [2]kind{aCipher, aPlain}, Plain, func(n, square, c, m *big.Int) *big.Int { return by(square, bared(n, square, m), c) }},
		{"Scale", [2]kind{aCipher, aPlain}, Scale, func(n, square, c, k *big.Int) *big.Int { return raised(square, c, k) }},
		{"Again", [2]kind{aCipher, aHider}, Again, func(n, square, c, r *big.Int) *big.Int { return by(square, raised(square, r, n), c) }},
	}
}

// want is what a call must answer, by the other reckoning.
func (c call) want(n, a, b api.Nat) (api.Nat, api.Errno) {
	if !may(n) {
		return nil, api.ErrArg
	}
	if err := c.kinds[0].fault(n, a); err != api.OK {
		return nil, err
	}
	if err := c.kinds[1].fault(n, b); err != api.OK {
		return nil, err
	}
	v := number(n)
	return limbs(c.answer(v, new(big.Int).Mul(v, v), number(a), number(b))), api.OK
}

// check asks of a call that it answers as the other reckoning does.
func (c call) check(t *testing.T, n, a, b api.Nat) {
	t.Helper()
	got, err := c.ask(n, a, b)
	want, fails := c.want(n, a, b)
	if err != fails || !slices.Equal(got, want) || err != api.OK && got != nil {
		t.Errorf("%s(%v, %v, %v): %v, error %d; asked %v, error %d", c.name, n, a, b, got, err, want, fails)
	}
}

// named is the call of a name.
func named(name string) call {
	all := calls()
	return all[slices.IndexFunc(all, func(c call) bool { return c.name == name })]
}

// shown is what a cipher text hides by another reckoning: by the least common multiple of both primes less 1, of which each number's power leaves 1 by n.
func shown(k api.Key, c api.Nat) api.Nat {
	n, square := number(of(k)), new(big.Int)
	square.Mul(n, n)
	p, q := new(big.Int).SetUint64(k.P-1), new(big.Int).SetUint64(k.Q-1)
	least := new(big.Int).Mul(p, q)
	least.Div(least, new(big.Int).GCD(nil, nil, p, q))
	u := new(big.Int).Exp(number(c), least, square)
	u.Div(u.Sub(u, one), n)
	u.Mul(u, new(big.Int).ModInverse(least, n))
	return limbs(u.Mod(u, n))
}

// bytesOf are so many bytes, the same for the same seed.
func bytesOf(seed uint64, count int) []byte {
	r := rand.New(rand.NewPCG(seed, 6))
	b := make([]byte, count)
	for i := range b {
		b[i] = byte(r.Uint32())
	}
	return b
}

// tapeOf is the tape of bytes.
func tapeOf(t testing.TB, b ...byte) *tape.Tape {
	t.Helper()
	x, err := tape.New(b)
	if err != api.OK {
		t.Fatalf("a tape of %d bytes: error %d", len(b), err)
	}
	return x
}

// left asks how many bytes are left of a tape, and takes these, which must be just those.
func left(t *testing.T, what string, x *tape.Tape, want []byte) {
	t.Helper()
	if x.Left() != len(want) {
		t.Errorf("%s: %d bytes are left; asked %d", what, x.Left(), len(want))
		return
	}
	if b, err := x.Take(len(want)); err != api.OK || !bytes.Equal(b, want) {
		t.Errorf("%s: left are %v, error %d; asked %v", what, b, err, want)
	}
}

// hiderFrom is the hider that bytes lead to by another reckoning, how many of them are used, and the error.
func hiderFrom(b []byte, n api.Nat) (api.Nat, int, api.Errno) {
	v := number(n)
	width := new(big.Int).Sub(v, one).BitLen()
	size, used := (width+7)/8, 0
	for used+size <= len(b) {
		x := new(big.Int).SetBytes(b[used : used+size])
		x.Mod(x, new(big.Int).Lsh(one, uint(width)))
		used += size
		if x.Cmp(v) < 0 && isApart(n, limbs(x)) {
			return limbs(x), used, api.OK
		}
	}
	return nil, used, api.ErrTapeEnd
}

// bytesFor is a draw below n that leads to a number.
func bytesFor(n, a api.Nat) []byte {
	return number(a).FillBytes(make([]byte, (number(more(n, -1)).BitLen()+7)/8))
}

// checkDraws asks of draws from the bytes, one behind the other till the tape ends, that each is the other reckoning's, as is what is left; so many at most.
func checkDraws(t *testing.T, b []byte, n, m api.Nat, count int) {
	t.Helper()
	x, hide := tapeOf(t, b...), named("Encrypt")
	for range count {
		r, used, end := hiderFrom(b, n)
		b = b[used:]
		var want api.Nat
		if end == api.OK {
			want, _ = hide.want(n, m, r)
		}
		got, err := Draw(n, m, x)
		if err != end || !slices.Equal(got, want) || x.Left() != len(b) || err != api.OK && got != nil {
			t.Fatalf("Draw(%v, %v): %v, error %d, %d left; asked %v, error %d, %d left", n, m, got, err, x.Left(), want, end, len(b))
		}
		if err != api.OK {
			break
		}
	}
	left(t, "behind the draws", x, b)
}
