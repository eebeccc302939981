package loss

import (
	"math"
	"math/big"
	"math/rand/v2"
	"testing"

	"windbreak/api"
)

// seeded is a source that is the same for the same seed.
func seeded(seed uint64) *rand.Rand { return rand.New(rand.NewPCG(seed, 16)) }

// far are numbers far out of each range.
func far() []int {
	return []int{math.MinInt, math.MinInt + 1, -1 << 62, -1 << 41, -1 << 32, -1 << 31, -1 << 21, -1 << 20, 1<<20 + 2, 1 << 21, 1 << 31, 1 << 32, 1<<32 + 1, 1 << 41, 1 << 62, math.MaxInt - 1, math.MaxInt}
}

// plain is a configuration of Loss 0, about the middle of all; clip is one of Loss 1.
func plain() api.Config {
	return api.Config{Trees: 3, Depth: 2, Lambda: 5, Gamma: 7, Num: 3, Den: 10}
}

func clip(most int) api.Config {
	c := plain()
	c.Loss, c.Clip = 1, most
	return c
}

// leaf is a configuration that makes weights by just these three.
func leaf(lambda, num, den int) api.Config {
	c := plain()
	c.Lambda, c.Num, c.Den = lambda, num, den
	return c
}

// allowed is whether a configuration may be, by the document's words.
func allowed(c api.Config) bool {
	if c.Trees < 1 || c.Trees > 16 || c.Depth < 1 || c.Depth > 5 {
		return false
	}
	if c.Lambda < 1 || c.Lambda > 1048576 || c.Gamma < 0 || c.Gamma > 1048576 {
		return false
	}
	if c.Den < 1 || c.Den > 1048576 || c.Num < 1 || c.Num > c.Den {
		return false
	}
	return c.Loss == 0 && c.Clip == 0 || c.Loss == 1 && c.Clip >= 1 && c.Clip <= 1048576
}

// field is a part of a configuration: its place in it, and what it may be while the others are as they are.
type field struct {
	name        string
	at          func(c *api.Config) *int
	least, most int
}

// fields are all that a configuration has, with what each may be in this one, which may be.
func fields(c api.Config) []field {
	all := []field{
		{"Trees", func(c *api.Config) *int { return &c.Trees }, 1, 16},
		{"Depth", func(c *api.Config) *int { return &c.Depth }, 1, 5},
		{"Lambda", func(c *api.Config) *int { return &c.Lambda }, 1, 1 << 20},
		{"Gamma", func(c *api.Config) *int { return &c.Gamma }, 0, 1 << 20},
		{"Num", func(c *api.Config) *int { return &c.Num }, 1, c.Den},
		{"Den", func(c *api.Config) *int { return &c.Den }, c.Num, 1 << 20},
		{"Loss", func(c *api.Config) *int { return &c.Loss }, c.Loss, c.Loss},
		{"Clip", func(c *api.Config) *int { return &c.Clip }, 0, 0},
	}
	if c.Loss == 1 {
		all[7].least, all[7].most = 1, 1<<20
	}
	return all
}

// with is a configuration of which one part is another number.
func with(c api.Config, f field, n int) api.Config {
	*f.at(&c) = n
	return c
}

// rightConfigs are such as may be: of the least and the greatest of each part, alone and together.
func rightConfigs() []api.Config {
	all := []api.Config{
		plain(), clip(1), clip(2), clip(1 << 19), clip(1<<20 - 1), clip(1 << 20),
		{Trees: 1, Depth: 1, Lambda: 1, Num: 1, Den: 1},
		{Trees: 1, Depth: 1, Lambda: 1, Num: 1, Den: 1, Loss: 1, Clip: 1},
		{Trees: 16, Depth: 5, Lambda: 1 << 20, Gamma: 1 << 20, Num: 1 << 20, Den: 1 << 20},
		{Trees: 16, Depth: 5, Lambda: 1 << 20, Gamma: 1 << 20, Num: 1 << 20, Den: 1 << 20, Loss: 1, Clip: 1 << 20},
		{Trees: 16, Depth: 5, Lambda: 1 << 20, Gamma: 1 << 20, Num: 1, Den: 1 << 20},
		{Trees: 16, Depth: 5, Lambda: 1, Gamma: 1 << 20, Num: 1 << 20, Den: 1 << 20},
	}
	for _, c := range []api.Config{plain(), clip(9)} {
		for _, f := range fields(c) {
			all = append(all, with(c, f, f.least), with(c, f, f.most))
		}
	}
	return all
}

// wrongConfigs are such as may not be, each for one part alone.
func wrongConfigs() []api.Config {
	all := []api.Config{{}, {Loss: 1, Clip: 1}}
	for _, c := range rightConfigs() {
		for _, f := range fields(c) {
			for _, n := range append(far(), -1, 0, f.least-1, f.most+1) {
				if n < f.least || n > f.most {
					all = append(all, with(c, f, n))
				}
			}
		}
	}
	return all
}

// someConfig is one that may be, of any parts, often small ones and the greatest.
func someConfig(r *rand.Rand) api.Config {
	upTo := func(least, most int) int {
		switch r.IntN(6) {
		case 0:
			return least
		case 1:
			return most
		case 2, 3:
			return min(most, least+r.IntN(8))
		}
		return least + r.IntN(most-least+1)
	}
	c := api.Config{Trees: upTo(1, 16), Depth: upTo(1, 5), Lambda: upTo(1, 1<<20), Gamma: upTo(0, 1<<20), Den: upTo(1, 1<<20)}
	c.Num = upTo(1, c.Den)
	if r.IntN(2) == 0 {
		c.Loss, c.Clip = 1, upTo(1, 1<<20)
	}
	return c
}

// within is some number of at most a size, often near to 0 or to one of the ends.
func within(r *rand.Rand, most int) int {
	n := r.IntN(most + 1)
	switch r.IntN(4) {
	case 0:
		n = min(most, r.IntN(20))
	case 1:
		n = most - min(most, r.IntN(4))
	}
	if r.IntN(2) == 0 {
		return -n
	}
	return n
}

// checkRight asks Right of a configuration, against the document's words.
func checkRight(t testing.TB, c api.Config) {
	t.Helper()
	if got, want := Right(c), allowed(c); got != want {
		t.Errorf("%+v: right %v, asked %v", c, got, want)
	}
}

// wantGrad is what P16.1 asks for, by another reckoning.
func wantGrad(c api.Config, score, label int) (int, api.Errno) {
	if !allowed(c) || score < -1<<40 || score > 1<<40 || label < -1<<20 || label > 1<<20 {
		return 0, api.ErrArg
	}
	m := 1 << 20
	if c.Loss == 1 {
		m = c.Clip
	}
	off := score - label
	if off > m {
		return m, api.OK
	}
	if off < -m {
		return -m, api.OK
	}
	return off, api.OK
}

func checkGrad(t testing.TB, c api.Config, score, label int) {
	t.Helper()
	got, err := Grad(c, score, label)
	want, fails := wantGrad(c, score, label)
	if got != want || err != fails {
		t.Errorf("Grad(%+v, %d, %d): %d, error %d; asked %d, error %d", c, score, label, got, err, want, fails)
	}
}

// isGrad asks of a derivative that it is just this number.
func isGrad(t testing.TB, c api.Config, score, label, want int) {
	t.Helper()
	if got, err := Grad(c, score, label); got != want || err != api.OK {
		t.Errorf("Grad(%+v, %d, %d): %d, error %d; asked %d", c, score, label, got, err, want)
	}
}

// isNoGrad asks of an answer that it is ErrArg, and nothing beside it.
func isNoGrad(t testing.TB, c api.Config, score, label int) {
	t.Helper()
	if got, err := Grad(c, score, label); got != 0 || err != api.ErrArg {
		t.Errorf("Grad(%+v, %d, %d): %d, error %d; asked ErrArg", c, score, label, got, err)
	}
}

// checkWeight asks of a weight that it is the greatest whole number that, times what is divided by, is not above what is divided; or ErrArg, and nothing beside it.
func checkWeight(t testing.TB, c api.Config, s api.Sum) {
	t.Helper()
	got, err := Weight(c, s)
	if !allowed(c) || s.G < -1<<40 || s.G > 1<<40 || s.H < 0 || s.H > 1<<20 {
		if got != 0 || err != api.ErrArg {
			t.Errorf("Weight(%+v, %+v): %d, error %d; asked ErrArg", c, s, got, err)
		}
		return
	}
	times := func(a, b int) *big.Int { return new(big.Int).Mul(big.NewInt(int64(a)), big.NewInt(int64(b))) }
	above := times(-s.G, c.Num)
	below := times(s.H+c.Lambda, c.Den)
	mine := new(big.Int).Mul(big.NewInt(int64(got)), below)
	next := new(big.Int).Add(mine, below)
	if err != api.OK || mine.Cmp(above) > 0 || next.Cmp(above) <= 0 {
		t.Errorf("Weight(%+v, %+v): %d, error %d; asked %v by %v, rounded down", c, s, got, err, above, below)
	}
}

// isWeight asks of a weight that it is just this number.
func isWeight(t testing.TB, c api.Config, g, h, want int) {
	t.Helper()
	if got, err := Weight(c, api.Sum{G: g, H: h}); got != want || err != api.OK {
		t.Errorf("Weight(%+v, G %d, H %d): %d, error %d; asked %d", c, g, h, got, err, want)
	}
}

// isNoWeight asks of an answer that it is ErrArg, and nothing beside it.
func isNoWeight(t testing.TB, c api.Config, g, h int) {
	t.Helper()
	if got, err := Weight(c, api.Sum{G: g, H: h}); got != 0 || err != api.ErrArg {
		t.Errorf("Weight(%+v, G %d, H %d): %d, error %d; asked ErrArg", c, g, h, got, err)
	}
}
