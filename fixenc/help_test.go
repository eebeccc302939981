package fixenc

import (
	"math"
	"math/big"
	"math/rand/v2"
	"slices"
	"testing"

	"windbreak/api"
)

const top = ^uint64(0)

// number is limbs as a number of another reckoning than the program's own; limbs is back again, however many.
func number(a api.Nat) *big.Int {
	v := new(big.Int)
	for _, limb := range slices.Backward(a) {
		v.Or(v.Lsh(v, 64), new(big.Int).SetUint64(limb))
	}
	return v
}

func limbs(v *big.Int) api.Nat {
	var a api.Nat
	mask := new(big.Int).SetUint64(top)
	for v = new(big.Int).Abs(v); v.Sign() > 0; v.Rsh(v, 64) {
		a = append(a, new(big.Int).And(v, mask).Uint64())
	}
	return a
}

// whole is a whole number by the other reckoning; parts is back again.
func whole(a api.Int) *big.Int {
	v := number(a.Mag)
	if a.Neg {
		v.Neg(v)
	}
	return v
}

func parts(v *big.Int) api.Int { return api.Int{Neg: v.Sign() < 0, Mag: limbs(v)} }

// more is a number and so many more, or less; big2 is 2 to the power of a number.
func more(v *big.Int, by int64) *big.Int { return new(big.Int).Add(v, big.NewInt(by)) }

func big2(n int) *big.Int { return new(big.Int).Lsh(big.NewInt(1), uint(n)) }

func opposite(v *big.Int) *big.Int { return new(big.Int).Neg(v) }

// filled is so many limbs, each the same.
func filled(count int, limb uint64) api.Nat { return slices.Repeat(api.Nat{limb}, count) }

// wrongLimbs are those that are no number's; wrongWholes are parts that are no whole number's.
func wrongLimbs() []api.Nat {
	return []api.Nat{{0}, {1, 0}, {101, 0}, {0, 0}, {top, top, 0}, append(filled(7, 1), 0), append(filled(63, 1), 0), filled(65, 1), filled(65, 0), filled(1000, 3)}
}

func wrongWholes() []api.Int {
	l := []api.Int{{Neg: true}, {Neg: true, Mag: api.Nat{}}}
	for _, a := range wrongLimbs() {
		l = append(l, api.Int{Mag: a}, api.Int{Neg: true, Mag: a})
	}
	return l
}

// moduli are the edges that the document names, even ones and odd ones, and moduli of each length.
func moduli() []api.Nat {
	r := rand.New(rand.NewPCG(1, 7))
	l := []api.Nat{{3}, {4}, {5}, {6}, {7}, {8}, {101}, {17947}, {1 << 62}, {1<<63 - 1}, {1 << 63}, {1<<63 + 1}, {top}, {0, 1}, {1, 1}, {2, 1}, {top, top}, filled(3, top), {0, 0, 0, 0, 0, 0, 0, 1}, filled(8, top), append(filled(7, top), 1)}
	for count := range api.MaxMod {
		a := filled(count+1, 0)
		for i := range a {
			a[i] = r.Uint64()
		}
		a[count] |= 4
		l = append(l, a, append(api.Nat{a[0] ^ 1}, a[1:]...))
	}
	return l
}

// wrongModuli are numbers that may not be moduli, and limbs that may not be a number.
func wrongModuli() []api.Nat {
	l := []api.Nat{nil, {}, {1}, {2}, limbs(big2(512)), filled(9, 1), filled(9, top), filled(64, top)}
	return append(l, wrongLimbs()...)
}

// halfOf is a modulus' half by the other reckoning.
func halfOf(n api.Nat) *big.Int {
	v := more(number(n), -1)
	return v.Quo(v, big.NewInt(2))
}

// mayBe tells by the other reckoning whether limbs are a number's; mayModulus whether that may be a modulus.
func mayBe(a api.Nat) bool {
	return len(a) <= 64 && slices.Equal(limbs(number(a)), a)
}

func mayModulus(n api.Nat) bool {
	return mayBe(n) && len(n) <= 8 && number(n).Cmp(big.NewInt(3)) >= 0
}

// wantEncode, wantDecode, wantPack, wantUnpack and wantRoom are the promises' words by the other reckoning.
func wantEncode(n api.Nat, x api.Int) (api.Nat, api.Errno) {
	if !mayModulus(n) || !mayBe(x.Mag) || x.Neg && len(x.Mag) == 0 {
		return nil, api.ErrArg
	}
	if number(x.Mag).Cmp(halfOf(n)) > 0 {
		return nil, api.ErrRoom
	}
	return limbs(new(big.Int).Mod(whole(x), number(n))), api.OK
}

func wantDecode(n, v api.Nat) (api.Int, api.Errno) {
	if !mayModulus(n) {
		return api.Int{}, api.ErrArg
	}
	if !mayBe(v) || number(v).Cmp(number(n)) >= 0 {
		return api.Int{}, api.ErrPlain
	}
	x := number(v)
	if x.Cmp(halfOf(n)) > 0 {
		x.Sub(x, number(n))
	}
	return parts(x), api.OK
}

// put is g times 2^shift, and h.
func put(shift int, g, h *big.Int) *big.Int {
	v := new(big.Int).Mul(g, big2(shift))
	return v.Add(v, h)
}

func wantPack(n api.Nat, shift int, g, h int64) (api.Nat, api.Errno) {
	if !mayModulus(n) || shift < 1 || shift > 62 {
		return nil, api.ErrArg
	}
	if h < 0 || big.NewInt(h).Cmp(big2(shift)) >= 0 {
		return nil, api.ErrRoom
	}
	return wantEncode(n, parts(put(shift, big.NewInt(g), big.NewInt(h))))
}

func wantUnpack(n api.Nat, shift int, v api.Nat) (int64, int64, api.Errno) {
	if !mayModulus(n) || shift < 1 || shift > 62 {
		return 0, 0, api.ErrArg
	}
	x, err := wantDecode(n, v)
	if err != api.OK {
		return 0, 0, err
	}
	// With a divisor above 0, this quotient is rounded down, and the rest is 0 or more.
	g, h := new(big.Int).DivMod(whole(x), big2(shift), new(big.Int))
	if !g.IsInt64() {
		return 0, 0, api.ErrRoom
	}
	return g.Int64(), h.Int64(), api.OK
}

func wantRoom(n api.Nat, rows, most, weight int64) (int, api.Errno) {
	if !mayModulus(n) || rows < 1 || most < 1 || weight < 1 {
		return 0, api.ErrArg
	}
	all := new(big.Int).Mul(big.NewInt(rows), big.NewInt(weight))
	for shift := 1; shift <= 62; shift++ {
		if all.Cmp(big2(shift)) >= 0 {
			continue
		}
		if farthestOf(shift, rows, most).Cmp(halfOf(n)) > 0 {
			break
		}
		return shift, api.OK
	}
	return 0, api.ErrRoom
}

// farthestOf is rows times most, times 2^shift, and 2^shift less 1.
func farthestOf(shift int, rows, most int64) *big.Int {
	return put(shift, new(big.Int).Mul(big.NewInt(rows), big.NewInt(most)), more(big2(shift), -1))
}

// checkEncode and the others ask of a call that it answers as the other reckoning does, and nothing beside an error.
func checkEncode(t *testing.T, n api.Nat, x api.Int) {
	t.Helper()
	got, err := Encode(n, x)
	want, fails := wantEncode(n, x)
	if err != fails || !slices.Equal(got, want) || err != api.OK && got != nil {
		t.Errorf("Encode(%v, %v): %v, error %d; asked %v, error %d", n, x, got, err, want, fails)
	}
}

func checkDecode(t *testing.T, n, v api.Nat) {
	t.Helper()
	got, err := Decode(n, v)
	want, fails := wantDecode(n, v)
	if err != fails || got.Neg != want.Neg || !slices.Equal(got.Mag, want.Mag) || err != api.OK && got.Mag != nil {
		t.Errorf("Decode(%v, %v): %v, error %d; asked %v, error %d", n, v, got, err, want, fails)
	}
}

func checkPack(t *testing.T, n api.Nat, shift int, g, h int64) {
	t.Helper()
	got, err := Pack(n, shift, g, h)
	want, fails := wantPack(n, shift, g, h)
	if err != fails || !slices.Equal(got, want) || err != api.OK && got != nil {
		t.Errorf("Pack(%v, %d, %d, %d): %v, error %d; asked %v, error %d", n, shift, g, h, got, err, want, fails)
	}
}

func checkUnpack(t *testing.T, n api.Nat, shift int, v api.Nat) {
	t.Helper()
	g, h, err := Unpack(n, shift, v)
	wantG, wantH, fails := wantUnpack(n, shift, v)
	if err != fails || g != wantG || h != wantH {
		t.Errorf("Unpack(%v, %d, %v): %d, %d, error %d; asked %d, %d, error %d", n, shift, v, g, h, err, wantG, wantH, fails)
	}
}

func checkRoom(t *testing.T, n api.Nat, rows, most, weight int64) {
	t.Helper()
	got, err := Room(n, rows, most, weight)
	want, fails := wantRoom(n, rows, most, weight)
	if err != fails || got != want {
		t.Errorf("Room(%v, %d, %d, %d): %d, error %d; asked %d, error %d", n, rows, most, weight, got, err, want, fails)
	}
}

// shifts are those that may be; wrongShifts are others.
func shifts() []int {
	var l []int
	for s := 1; s <= 62; s++ {
		l = append(l, s)
	}
	return l
}

func wrongShifts() []int {
	return []int{0, 63, 64, 65, 127, 128, -1, -2, -62, -63, -64, math.MinInt, math.MaxInt, 1 << 32, 1<<32 + 1}
}

// smalls are the edges of an int64, and others.
func smalls() []int64 {
	return []int64{math.MinInt64, math.MinInt64 + 1, -1 << 62, -1<<32 - 1, -100, -5, -2, -1, 0, 1, 2, 5, 100, 1 << 20, 1<<31 - 1, 1 << 31, 1 << 32, 1<<61 - 1, 1 << 61, 1<<62 - 1, 1 << 62, math.MaxInt64 - 1, math.MaxInt64}
}

// wholesBy are whole numbers about a modulus' edges, above 0 and below: those that are encoded, and those that are refused.
func wholesBy(n api.Nat) []api.Int {
	r := rand.New(rand.NewPCG(n[0], uint64(len(n))))
	v, half := number(n), halfOf(n)
	l := []api.Int{{}, {Mag: api.Nat{}}}
	for _, x := range []*big.Int{big.NewInt(1), big.NewInt(2), more(half, -2), more(half, -1), half, more(half, 1), more(half, 2), more(v, -1), v, more(v, 1), number(append(filled(len(n), 0), 1)), number(filled(64, top)), drawnTo(r, half), drawnTo(r, half), drawnTo(r, v)} {
		l = append(l, parts(x), parts(opposite(x)))
	}
	return l
}

// drawnTo is some number of at most a bound.
func drawnTo(r *rand.Rand, bound *big.Int) *big.Int {
	a := filled(len(limbs(bound))+1, 0)
	for i := range a {
		a[i] = r.Uint64()
	}
	return new(big.Int).Mod(number(a), more(bound, 1))
}

// restsBy are numbers about the edges of Decode: those that are rests by a modulus, and those that are not.
func restsBy(n api.Nat) []api.Nat {
	r := rand.New(rand.NewPCG(n[0], 2))
	v, half := number(n), halfOf(n)
	l := []api.Nat{nil, {}, {1}, {2}, filled(len(n)+1, 1), filled(64, top)}
	for _, x := range []*big.Int{more(half, -1), half, more(half, 1), more(half, 2), more(v, -2), more(v, -1), v, more(v, 1), drawnTo(r, half), drawnTo(r, v)} {
		l = append(l, limbs(x))
	}
	return l
}

// must takes an answer that has no error.
func must[A any](t *testing.T) func(a A, err api.Errno) A {
	return func(a A, err api.Errno) A {
		t.Helper()
		if err != api.OK {
			t.Fatal("error", err)
		}
		return a
	}
}
