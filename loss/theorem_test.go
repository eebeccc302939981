package loss

import (
	"slices"
	"testing"

	"windbreak/api"
)

// sign is -1, 0 or 1.
func sign(n int) int {
	switch {
	case n < 0:
		return -1
	case n > 0:
		return 1
	}
	return 0
}

// checkRising asks of rising scores that none has a lesser derivative than one ahead of it, and that each is on the right side of 0.
func checkRising(t testing.TB, c api.Config, label int, scores []int) {
	t.Helper()
	last := 0
	for i, score := range scores {
		got, err := Grad(c, score, label)
		if err != api.OK {
			t.Fatal("score", score, "label", label, "error", err)
		}
		if i > 0 && got < last {
			t.Errorf("%+v, label %d: %d at the score %d, which is less than ahead of it", c, label, got, score)
		}
		if sign(got) != sign(score-label) {
			t.Errorf("%+v, label %d: %d at the score %d, on the wrong side", c, label, got, score)
		}
		last = got
	}
}

// checkSide asks of a weight that it is below 0 just if G is above 0, and no greater in size than G.
func checkSide(t testing.TB, c api.Config, s api.Sum) {
	t.Helper()
	got, err := Weight(c, s)
	if err != api.OK {
		t.Fatalf("%+v, %+v: error %d", c, s, err)
	}
	if (got < 0) != (s.G > 0) {
		t.Errorf("%+v, %+v: %d, on the wrong side", c, s, got)
	}
	if max(got, -got) > max(s.G, -s.G) {
		t.Errorf("%+v, %+v: %d, greater in size than G", c, s, got)
	}
}

// P16.3: of many scores about a label, about both ends of what is not clipped, and far from it.
func TestTheoremOfGrad(t *testing.T) {
	r := seeded(6)
	configs := rightConfigs()
	for range 300 {
		configs = append(configs, someConfig(r))
	}
	for _, c := range configs {
		m := 1 << 20
		if c.Loss == 1 {
			m = c.Clip
		}
		for _, label := range []int{-1 << 20, 0, 1 << 20, within(r, 1<<20), within(r, 1<<20)} {
			scores := []int{-1 << 40, -1<<40 + 1, 1<<40 - 1, 1 << 40}
			for by := -3; by <= 3; by++ {
				scores = append(scores, label+by, label+m+by, label-m+by, by)
			}
			for range 20 {
				scores = append(scores, within(r, 1<<40), label+within(r, 2*m))
			}
			slices.Sort(scores)
			checkRising(t, c, label, scores)
		}
	}
}

// P16.3: every score about every label of a few.
func TestTheoremOfAllSmall(t *testing.T) {
	scores := make([]int, 81)
	for i := range scores {
		scores[i] = i - 40
	}
	for most := range 22 {
		c := plain()
		if most > 0 {
			c = clip(most)
		}
		for label := -20; label <= 20; label++ {
			checkRising(t, c, label, scores)
		}
	}
}

// P16.3: of many sums, at the edges and between, of many configurations.
func TestTheoremOfWeight(t *testing.T) {
	r := seeded(7)
	for _, c := range rightConfigs() {
		for _, g := range []int{-1 << 40, -1<<40 + 1, -1 << 20, -2, -1, 0, 1, 2, 1 << 20, 1<<40 - 1, 1 << 40} {
			for _, h := range []int{0, 1, 2, 255, 256, 1<<20 - 1, 1 << 20} {
				checkSide(t, c, api.Sum{G: g, H: h})
			}
		}
	}
	for range 30000 {
		checkSide(t, someConfig(r), api.Sum{G: within(r, 1<<40), H: r.IntN(1<<20 + 1)})
		checkSide(t, someConfig(r), api.Sum{G: within(r, 50), H: r.IntN(3)})
	}
}

// P16.3: every few sums, of every few configurations.
func TestTheoremOfSmallWeights(t *testing.T) {
	for lambda := 1; lambda <= 4; lambda++ {
		for den := 1; den <= 5; den++ {
			for num := 1; num <= den; num++ {
				for h := range 4 {
					for g := -40; g <= 40; g++ {
						checkSide(t, leaf(lambda, num, den), api.Sum{G: g, H: h})
					}
				}
			}
		}
	}
}
