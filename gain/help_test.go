package gain

import (
	"fmt"
	"math"
	"math/big"
	"math/rand/v2"
	"slices"
	"testing"

	"windbreak/api"
)

// The ends of what may be, as the document has them.
const (
	endG = 1 << 40
	endH = 1 << 20
	end  = 1 << 20 // of lambda and gamma
)

// seeded is a source that is the same for the same seed.
func seeded(seed uint64) *rand.Rand { return rand.New(rand.NewPCG(seed, 17)) }

// far are numbers far out of each range.
func far() []int {
	return []int{math.MinInt, math.MinInt + 1, -1 << 62, -1 << 42, -1 << 41, 1 << 41, 1<<42 + 1, 1 << 62, math.MaxInt - 1, math.MaxInt}
}

func sum(g, h int) api.Sum { return api.Sum{G: g, H: h} }

// rightOf are the right rows' sums, by the document's words.
func rightOf(left, all api.Sum) api.Sum { return api.Sum{G: all.G - left.G, H: all.H - left.H} }

// mayLambda, maySum and maySplit are whether something may be, by the document's words.
func mayLambda(lambda int) bool { return 1 <= lambda && lambda <= 1048576 }

func maySum(s api.Sum) bool {
	return -1099511627776 <= s.G && s.G <= 1099511627776 && 0 <= s.H && s.H <= 1048576
}

func maySplit(left, all api.Sum) bool {
	return maySum(left) && maySum(all) && maySum(rightOf(left, all))
}

// limbs are a number's, however many, by another reckoning than the program's own.
func limbs(v *big.Int) api.Nat {
	var a api.Nat
	mask := new(big.Int).SetUint64(math.MaxUint64)
	for v = new(big.Int).Abs(v); v.Sign() > 0; v.Rsh(v, 64) {
		a = append(a, new(big.Int).And(v, mask).Uint64())
	}
	return a
}

// frac is a fraction of the other reckoning, which keeps it in lowest terms, as the program has it.
func frac(v *big.Rat) api.Frac {
	return api.Frac{Num: api.Int{Neg: v.Sign() < 0, Mag: limbs(v.Num())}, Den: limbs(v.Denom())}
}

func isSame(a, b api.Frac) bool {
	return a.Num.Neg == b.Num.Neg && slices.Equal(a.Num.Mag, b.Num.Mag) && slices.Equal(a.Den, b.Den)
}

func isZero(a api.Frac) bool { return !a.Num.Neg && len(a.Num.Mag) == 0 && len(a.Den) == 0 }

// scoreOf is the score of what may be, by the other reckoning; gainOf the gain.
func scoreOf(lambda int, s api.Sum) *big.Rat {
	g := big.NewInt(int64(s.G))
	return new(big.Rat).SetFrac(g.Mul(g, g), big.NewInt(int64(s.H)+int64(lambda)))
}

func gainOf(lambda int, left, all api.Sum) *big.Rat {
	v := new(big.Rat).Add(scoreOf(lambda, left), scoreOf(lambda, rightOf(left, all)))
	return v.Sub(v, scoreOf(lambda, all))
}

// isFrac asks of an answer that it is just this fraction; isNone that it is ErrArg, and nothing beside it.
func isFrac(t testing.TB, about string, got api.Frac, err api.Errno, want *big.Rat) {
	t.Helper()
	if err != api.OK || !isSame(got, frac(want)) {
		t.Errorf("%s: %v, error %d; asked %v", about, got, err, want)
	}
}

func isNone(t testing.TB, about string, got api.Frac, err api.Errno) {
	t.Helper()
	if err != api.ErrArg || !isZero(got) {
		t.Errorf("%s: %v, error %d; asked ErrArg", about, got, err)
	}
}

// checkScore asks Score against the document's words; checkGain Gain.
func checkScore(t testing.TB, lambda int, s api.Sum) {
	t.Helper()
	got, err := Score(lambda, s)
	about := fmt.Sprintf("Score(%d, %+v)", lambda, s)
	if !mayLambda(lambda) || !maySum(s) {
		isNone(t, about, got, err)
		return
	}
	isFrac(t, about, got, err, scoreOf(lambda, s))
}

func checkGain(t testing.TB, lambda int, left, all api.Sum) {
	t.Helper()
	got, err := Gain(lambda, left, all)
	about := fmt.Sprintf("Gain(%d, %+v, %+v)", lambda, left, all)
	if !mayLambda(lambda) || !maySplit(left, all) {
		isNone(t, about, got, err)
		return
	}
	isFrac(t, about, got, err, gainOf(lambda, left, all))
}

// wantBest is what P17.2 asks for, by the other reckoning: first the greatest gain, then all that have it.
func wantBest(lambda, gamma int, all api.Sum, lefts []api.Sum) ([]int, api.Errno) {
	if gamma < 0 || gamma > 1048576 || len(lefts) > 16384 || !mayLambda(lambda) || !maySum(all) {
		return nil, api.ErrArg
	}
	gains := make([]*big.Rat, len(lefts))
	var most *big.Rat
	for i, left := range lefts {
		if !maySplit(left, all) {
			return nil, api.ErrArg
		}
		g := gainOf(lambda, left, all)
		if left.H < 1 || all.H-left.H < 1 || g.Cmp(big.NewRat(int64(gamma), 1)) <= 0 {
			continue
		}
		gains[i] = g
		if most == nil || g.Cmp(most) > 0 {
			most = g
		}
	}
	var places []int
	for i, g := range gains {
		if g != nil && g.Cmp(most) == 0 {
			places = append(places, i)
		}
	}
	return places, api.OK
}

// checkBest asks Best against that.
func checkBest(t testing.TB, lambda, gamma int, all api.Sum, lefts []api.Sum) {
	t.Helper()
	got, err := Best(lambda, gamma, all, lefts)
	want, fails := wantBest(lambda, gamma, all, lefts)
	if err != fails || !slices.Equal(got, want) {
		t.Errorf("Best(%d, %d, %+v, %s): %s, error %d; asked %s, error %d", lambda, gamma, all, brief(lefts), brief(got), err, brief(want), fails)
	}
}

// isBest asks of Best that it tells just these places; isNoBest that it is ErrArg, and tells none.
func isBest(t testing.TB, lambda, gamma int, all api.Sum, lefts []api.Sum, want ...int) {
	t.Helper()
	if got, err := Best(lambda, gamma, all, lefts); err != api.OK || !slices.Equal(got, want) {
		t.Errorf("Best(%d, %d, %+v, %s): %s, error %d; asked %s", lambda, gamma, all, brief(lefts), brief(got), err, brief(want))
	}
}

func isNoBest(t testing.TB, lambda, gamma int, all api.Sum, lefts []api.Sum) {
	t.Helper()
	if got, err := Best(lambda, gamma, all, lefts); err != api.ErrArg || len(got) != 0 {
		t.Errorf("Best(%d, %d, %+v, %s): %s, error %d; asked ErrArg", lambda, gamma, all, brief(lefts), brief(got), err)
	}
}

// brief is a list, or its beginning, if it is long.
func brief[T any](l []T) string {
	if len(l) <= 20 {
		return fmt.Sprintf("%+v", l)
	}
	return fmt.Sprintf("%d of them: %+v ..", len(l), l[:20])
}

// within is some number of at most a size, often near to 0 or to one of the ends.
func within(r *rand.Rand, most int) int {
	n := upTo(r, most)
	if r.IntN(2) == 0 {
		return -n
	}
	return n
}

// upTo is some number from 0 to most, often near to one of the ends.
func upTo(r *rand.Rand, most int) int {
	switch r.IntN(4) {
	case 0:
		return min(most, r.IntN(20))
	case 1:
		return most - min(most, r.IntN(4))
	}
	return r.IntN(most + 1)
}

// someLambda is one that may be.
func someLambda(r *rand.Rand) int { return 1 + upTo(r, end-1) }

// someAll are sums that may be; someLeft are left rows' of all, such that the right rows' may be too.
func someAll(r *rand.Rand) api.Sum { return api.Sum{G: within(r, endG), H: upTo(r, endH)} }

func someLeft(r *rand.Rand, all api.Sum) api.Sum {
	least, most := max(-endG, all.G-endG), min(endG, all.G+endG)
	return api.Sum{G: least + upTo(r, most-least), H: upTo(r, all.H)}
}

// someLefts are so many of them; few draws them from few, so that many of their gains are the same.
func someLefts(r *rand.Rand, all api.Sum, count int, few bool) []api.Sum {
	lefts := make([]api.Sum, count)
	for i := range lefts {
		lefts[i] = someLeft(r, all)
		if few && i > 0 && r.IntN(3) > 0 {
			lefts[i] = lefts[r.IntN(i)]
			if r.IntN(2) == 0 {
				lefts[i] = rightOf(lefts[i], all)
			}
		}
	}
	return lefts
}

// wrongSums are sums that may not be, most of them for one part alone.
func wrongSums() []api.Sum {
	all := []api.Sum{{G: -endG - 1}, {G: endG + 1}, {H: -1}, {H: endH + 1}, {G: -endG - 1, H: -1}, {G: endG + 1, H: endH + 1}, {G: -endG - 1, H: 5}, {G: endG + 1, H: 5}, {G: 5, H: -1}, {G: 5, H: endH + 1}}
	for _, n := range far() {
		all = append(all, api.Sum{G: n}, api.Sum{G: n, H: 5}, api.Sum{H: n}, api.Sum{G: 5, H: n}, api.Sum{G: n, H: n})
	}
	return all
}

// rightSums are such as may be: of the least and the greatest of each part, and between.
func rightSums() []api.Sum {
	var all []api.Sum
	for _, g := range []int{-endG, -endG + 1, -4, -1, 0, 1, 4, endG - 1, endG} {
		for _, h := range []int{0, 1, 2, endH - 1, endH} {
			all = append(all, api.Sum{G: g, H: h})
		}
	}
	return all
}

// wrongLambdas and rightLambdas are such as may not be, and such as may.
func wrongLambdas() []int { return append(far(), -endG, -end, -2, -1, 0, end+1, end+2, endG) }

func rightLambdas() []int { return []int{1, 2, 3, end - 1, end} }

// wrongGammas and rightGammas likewise.
func wrongGammas() []int { return append(far(), -endG, -end, -2, -1, end+1, end+2, endG) }

func rightGammas() []int { return []int{0, 1, 2, end - 1, end} }
