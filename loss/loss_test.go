package loss

import (
	"math"
	"testing"

	"windbreak/api"
)

// P16.1: the edges of each part, the others being such as may be.
func TestRight(t *testing.T) {
	for _, c := range rightConfigs() {
		if !Right(c) || !allowed(c) {
			t.Errorf("may be: %+v", c)
		}
	}
	for _, c := range wrongConfigs() {
		if Right(c) || allowed(c) {
			t.Errorf("may not be: %+v", c)
		}
	}
}

// P16.1: the edges that the document names, number by number.
func TestRightOfParts(t *testing.T) {
	for _, e := range []struct {
		part int
		may  map[int]bool
	}{
		{0, map[int]bool{-1: false, 0: false, 1: true, 2: true, 15: true, 16: true, 17: false}},
		{1, map[int]bool{-1: false, 0: false, 1: true, 2: true, 4: true, 5: true, 6: false}},
		{2, map[int]bool{-1: false, 0: false, 1: true, 2: true, 1<<20 - 1: true, 1 << 20: true, 1<<20 + 1: false}},
		{3, map[int]bool{-2: false, -1: false, 0: true, 1: true, 1<<20 - 1: true, 1 << 20: true, 1<<20 + 1: false}},
		{4, map[int]bool{-1: false, 0: false, 1: true, 2: true, 9: true, 10: true, 11: false}},
		{5, map[int]bool{-1: false, 0: false, 1: false, 2: false, 3: true, 1<<20 - 1: true, 1 << 20: true, 1<<20 + 1: false}},
		{6, map[int]bool{-1: false, 0: true, 1: false, 2: false, 3: false}},
		{7, map[int]bool{-1: false, 0: true, 1: false, 2: false, 1 << 20: false, 1<<20 + 1: false}},
	} {
		f := fields(plain())[e.part]
		for n, want := range e.may {
			if got := Right(with(plain(), f, n)); got != want {
				t.Error(f.name, n, "right", got)
			}
		}
		for _, n := range far() {
			if Right(with(plain(), f, n)) {
				t.Error(f.name, n, "is right")
			}
		}
	}
}

// P16.1: Num is 1 to Den, whatever Den is.
func TestRightOfNum(t *testing.T) {
	for _, den := range append(far(), -1, 0, 1, 2, 3, 10, 1<<20-1, 1<<20, 1<<20+1) {
		for _, num := range append(far(), -1, 0, 1, 2, 3, 10, den-1, den, den+1) {
			want := den >= 1 && den <= 1<<20 && num >= 1 && num <= den
			if got := Right(leaf(5, num, den)); got != want {
				t.Error("Num", num, "Den", den, "right", got)
			}
		}
	}
}

// P16.1: Clip is 0 of Loss 0, 1 to 2^20 of Loss 1; there is no other Loss.
func TestRightOfLoss(t *testing.T) {
	numbers := append(far(), -2, -1, 0, 1, 2, 3, 255, 256, 1<<20-1, 1<<20, 1<<20+1)
	for _, n := range numbers {
		for _, most := range numbers {
			c := plain()
			c.Loss, c.Clip = n, most
			want := n == 0 && most == 0 || n == 1 && most >= 1 && most <= 1<<20
			if got := Right(c); got != want {
				t.Error("Loss", n, "Clip", most, "right", got)
			}
		}
	}
}

// P16.1: of parts that are such as may be, and others, any together.
func TestRightOfAny(t *testing.T) {
	r := seeded(1)
	told := [2]int{}
	for range 20000 {
		c := someConfig(r)
		for _, f := range fields(c) {
			switch r.IntN(40) {
			case 0:
				*f.at(&c) = far()[r.IntN(len(far()))]
			case 1:
				*f.at(&c) += r.IntN(3) - 1
			}
		}
		checkRight(t, c)
		if Right(c) {
			told[1]++
		} else {
			told[0]++
		}
	}
	if told[0] < 3000 || told[1] < 3000 {
		t.Error("how many may not be, and how many may:", told)
	}
}

// The chapter's examples.
func TestExamples(t *testing.T) {
	isGrad(t, plain(), 7, 3, 4)
	isGrad(t, clip(2), 7, 3, 2)
	isWeight(t, leaf(1, 1, 2), 7, 3, -1)
	isWeight(t, leaf(1, 1, 2), -7, 3, 0)
}

// P16.1: ErrArg of a configuration that may not be, of whatever score and label.
func TestGradOfWrongConfigs(t *testing.T) {
	for _, c := range wrongConfigs() {
		isNoGrad(t, c, 7, 3)
		isNoGrad(t, c, 0, 0)
		isNoGrad(t, c, 1<<40+1, 1<<20+1)
	}
}

// P16.1: scores are from -2^40 to 2^40, labels from -2^20 to 2^20.
func TestGradOfBounds(t *testing.T) {
	scores := map[int]bool{math.MinInt: false, -1<<40 - 2: false, -1<<40 - 1: false, -1 << 40: true, -1<<40 + 1: true, -1 << 20: true, 0: true, 1 << 20: true, 1<<20 + 1: true, 1<<40 - 1: true, 1 << 40: true, 1<<40 + 1: false, 1 << 41: false, math.MaxInt: false}
	labels := map[int]bool{math.MinInt: false, -1 << 40: false, -1<<20 - 1: false, -1 << 20: true, -1<<20 + 1: true, 0: true, 1<<20 - 1: true, 1 << 20: true, 1<<20 + 1: false, 1 << 40: false, math.MaxInt: false}
	for _, c := range rightConfigs() {
		for score, scoreMay := range scores {
			for label, labelMay := range labels {
				if !scoreMay || !labelMay {
					isNoGrad(t, c, score, label)
				} else if _, err := Grad(c, score, label); err != api.OK {
					t.Error("score", score, "label", label, "error", err)
				}
				checkGrad(t, c, score, label)
			}
		}
	}
	for _, n := range far() {
		if n < -1<<40 || n > 1<<40 {
			isNoGrad(t, plain(), n, 0)
			isNoGrad(t, clip(5), n, n)
		}
		if n < -1<<20 || n > 1<<20 {
			isNoGrad(t, plain(), 0, n)
			isNoGrad(t, clip(5), 5, n)
		}
	}
}

// P16.1: a difference of m, one less and one more, above 0 and below, of each loss, wherever the label is.
func TestGradOfDifferences(t *testing.T) {
	for _, m := range []int{1, 2, 3, 100, 1<<20 - 1, 1 << 20} {
		c := clip(m)
		if m == 1<<20 {
			differencesOf(t, plain(), m)
		}
		differencesOf(t, c, m)
	}
	isGrad(t, plain(), 1<<20+1, 0, 1<<20)
	isGrad(t, plain(), -1<<20-1, 0, -1<<20)
	isGrad(t, clip(1), 1, 0, 1)
	isGrad(t, clip(1), 0, 1, -1)
	isGrad(t, clip(1), 0, 0, 0)
}

// differencesOf asks for the derivatives about m of a configuration whose greatest is m.
func differencesOf(t *testing.T, c api.Config, m int) {
	t.Helper()
	for _, label := range []int{-1 << 20, -1<<20 + 1, -7, -1, 0, 1, 7, 1<<20 - 1, 1 << 20} {
		isGrad(t, c, label, label, 0)
		isGrad(t, c, label+1, label, 1)
		isGrad(t, c, label-1, label, -1)
		isGrad(t, c, label+m-1, label, m-1)
		isGrad(t, c, label+m, label, m)
		isGrad(t, c, label+m+1, label, m)
		isGrad(t, c, label-m+1, label, -m+1)
		isGrad(t, c, label-m, label, -m)
		isGrad(t, c, label-m-1, label, -m)
		isGrad(t, c, 1<<40, label, m)
		isGrad(t, c, -1<<40, label, -m)
	}
}

// P16.1: each small score and label.
func TestGradOfSmall(t *testing.T) {
	for _, c := range []api.Config{plain(), clip(1), clip(2), clip(7), clip(20), clip(1 << 20)} {
		for score := -12; score <= 12; score++ {
			for label := -12; label <= 12; label++ {
				checkGrad(t, c, score, label)
			}
		}
	}
}

// P16.1: a derivative hangs on Loss and Clip alone of a configuration that may be.
func TestGradHangsOnLoss(t *testing.T) {
	r := seeded(2)
	for range 2000 {
		c, d := someConfig(r), someConfig(r)
		d.Loss, d.Clip = c.Loss, c.Clip
		score, label := within(r, 1<<22), within(r, 1<<20)
		got, err := Grad(c, score, label)
		if again, other := Grad(d, score, label); got != again || err != api.OK || other != api.OK {
			t.Errorf("%+v and %+v: %d and %d", c, d, got, again)
		}
	}
}
