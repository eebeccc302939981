package tape

import (
	"bytes"
	"slices"
	"testing"

	"windbreak/api"
	"windbreak/nat"
)

// P4.3: to take twice is to take once as many, wherever the parts meet.
func TestTwiceIsOnce(t *testing.T) {
	all := bytesOf(8, 40)
	for m := range len(all) + 1 {
		for n := range len(all) + 1 - m {
			x, y := of(t, all...), of(t, all...)
			first, err1 := x.Take(m)
			second, err2 := x.Take(n)
			once, err := y.Take(m + n)
			if err1 != api.OK || err2 != api.OK || err != api.OK || !bytes.Equal(append(first, second...), once) || x.Left() != y.Left() {
				t.Error(m, "and", n, first, second, once)
			}
			left(t, "behind two takes", x, all[m+n:])
			left(t, "behind one", y, all[m+n:])
		}
	}
}

// P4.3: a draw hangs on the bytes that it uses alone: from tapes that share just these it is the same, whatever stands ahead and behind.
func TestOnUsedAlone(t *testing.T) {
	for i, n := range bounds() {
		all := bytesOf(uint64(100+i), 8000)
		x := of(t, all...)
		want, err := x.Below(n)
		if err != api.OK {
			t.Fatal("below", n, err)
		}
		used := all[:len(all)-x.Left()]
		for seed, counts := range [][2]int{{0, 0}, {0, 1}, {1, 0}, {3, 5}, {600, 700}, {api.MaxTape - len(used), 0}, {0, api.MaxTape - len(used)}} {
			ahead, behind := bytesOf(uint64(seed), counts[0]), bytesOf(uint64(seed+50), counts[1])
			y := of(t, slices.Concat(ahead, used, behind)...)
			y.Take(len(ahead))
			if got, err := y.Below(n); err != api.OK || !slices.Equal(got, want) {
				t.Error("below", n, got, err, "asked:", want)
			}
			left(t, "behind the draw", y, behind)
		}
		// It hangs on all of them: of one less there is no draw.
		if len(used) > 0 {
			if got, err := of(t, used[:len(used)-1]...).Below(n); err != api.ErrTapeEnd || got != nil {
				t.Error("of one byte less below", n, got, err)
			}
		}
	}
}

// leadsTo is how many of the 256 single bytes lead to each number below n, and how many to none, asked of Small and of Below.
func leadsTo(t *testing.T, n int) ([]int, int) {
	counts, none := make([]int, n), 0
	for b := range 256 {
		x, y := of(t, byte(b)), of(t, byte(b))
		small, err := x.Small(n)
		long, same := y.Below(nat.Of(uint64(n)))
		if err != same || !slices.Equal(nat.Of(uint64(small)), long) || x.Left() != y.Left() {
			t.Fatal("Small and Below", n, "of", b, small, long, err, same)
		}
		switch {
		case err == api.ErrTapeEnd && small == 0 && x.Left() == 0:
			none++
		case err == api.OK && small >= 0 && small < n:
			counts[small]++
		default:
			t.Fatal("below", n, "of", b, small, err, x.Left())
		}
	}
	return counts, none
}

// P4.3: of all single bytes just as many lead to each number below n: 256 by the least power of 2 that is not below n.
func TestEachAsOften(t *testing.T) {
	for n := 1; n <= 256; n++ {
		room := 1
		for room < n {
			room *= 2
		}
		counts, none := leadsTo(t, n)
		for a, count := range counts {
			if count != 256/room {
				t.Error("below", n, count, "bytes lead to", a, "asked:", 256/room)
			}
		}
		if none != (room-n)*(256/room) {
			t.Error("below", n, none, "bytes lead to none")
		}
	}
}

// The document's examples.
func TestExamples(t *testing.T) {
	x := of(t, 5, 255, 3)
	for _, want := range []int{1, 3, 3} {
		if a, err := x.Small(4); err != api.OK || a != want {
			t.Error("below 4:", a, err, "asked:", want)
		}
	}
	if a, err := x.Small(4); err != api.ErrTapeEnd || a != 0 {
		t.Error("below 4 behind the end:", a, err)
	}
	x = of(t, 9)
	if a, err := x.Small(1); err != api.OK || a != 0 || x.Left() != 1 {
		t.Error("below 1:", a, err, x.Left())
	}
	x = of(t, 3, 1)
	if a, err := x.Small(3); err != api.OK || a != 1 || x.Left() != 0 {
		t.Error("below 3:", a, err, x.Left())
	}
}
