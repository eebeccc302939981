package gain

import (
	"math/rand/v2"
	"slices"
	"testing"

	"windbreak/api"
)

// checkExchanged asks that the Gain of left and that of the right rows' sums are the same, or that neither may be.
func checkExchanged(t testing.TB, lambda int, left, all api.Sum) {
	t.Helper()
	got, err := Gain(lambda, left, all)
	other, fails := Gain(lambda, rightOf(left, all), all)
	if err != fails || !isSame(got, other) {
		t.Errorf("lambda %d, left %+v of %+v: %v, error %d; exchanged %v, error %d", lambda, left, all, got, err, other, fails)
	}
}

// checkOfNone asks that the Gain of no left rows is 0, and that of no right ones.
func checkOfNone(t testing.TB, lambda int, all api.Sum) {
	t.Helper()
	zero := api.Frac{Den: api.Nat{1}}
	for _, left := range []api.Sum{{}, all} {
		if got, err := Gain(lambda, left, all); err != api.OK || !isSame(got, zero) {
			t.Errorf("lambda %d, left %+v of %+v: %v, error %d; asked 0", lambda, left, all, got, err)
		}
	}
}

// checkOrder asks that Best of the lefts in an order (each place's number is its place before) tells the same lefts, at their places there.
func checkOrder(t testing.TB, lambda, gamma int, all api.Sum, lefts []api.Sum, order []int) {
	t.Helper()
	moved := make([]api.Sum, len(order))
	for i, before := range order {
		moved[i] = lefts[before]
	}
	want, err := Best(lambda, gamma, all, lefts)
	got, fails := Best(lambda, gamma, all, moved)
	back := make([]int, len(got))
	for i, place := range got {
		back[i] = order[place]
	}
	slices.Sort(back)
	if err != fails || !slices.IsSorted(got) || !slices.Equal(back, want) {
		t.Errorf("Best(%d, %d, %+v, %s): %s, error %d; in the order %s: %s, error %d", lambda, gamma, all, brief(lefts), brief(want), err, brief(order), brief(got), fails)
	}
}

// checkOrders asks that of the lefts turned round, one moved on, and shuffled.
func checkOrders(t testing.TB, r *rand.Rand, lambda, gamma int, all api.Sum, lefts []api.Sum) {
	t.Helper()
	turned := rising(0, len(lefts))
	slices.Reverse(turned)
	checkOrder(t, lambda, gamma, all, lefts, turned)
	if len(lefts) > 0 {
		checkOrder(t, lambda, gamma, all, lefts, append(rising(1, len(lefts)-1), 0))
	}
	for range 3 {
		checkOrder(t, lambda, gamma, all, lefts, r.Perm(len(lefts)))
	}
}

// P17.3: left and right exchanged, of sums at the edges, and of many between.
func TestTheoremOfSides(t *testing.T) {
	for _, lambda := range rightLambdas() {
		for _, all := range rightSums() {
			for _, left := range rightSums() {
				checkExchanged(t, lambda, left, all)
			}
		}
	}
	r := seeded(4)
	for range 10000 {
		all := someAll(r)
		checkExchanged(t, someLambda(r), someLeft(r, all), all)
		checkExchanged(t, someLambda(r), someAll(r), all)
		all = sum(within(r, 100), r.IntN(20))
		checkExchanged(t, 1+r.IntN(5), sum(within(r, 100), upTo(r, all.H)), all)
	}
}

// P17.3: of no left rows, and of no right ones, a Gain is 0.
func TestTheoremOfNone(t *testing.T) {
	for _, lambda := range rightLambdas() {
		for _, all := range rightSums() {
			checkOfNone(t, lambda, all)
		}
	}
	r := seeded(5)
	for range 10000 {
		checkOfNone(t, someLambda(r), someAll(r))
		checkOfNone(t, 1+r.IntN(5), sum(within(r, 100), r.IntN(20)))
	}
}

// P17.3: Best of lists in another order, of which some have many Gains that are the same, and some a left that may not be.
func TestTheoremOfOrder(t *testing.T) {
	r := seeded(6)
	several, none := 0, 0
	for i := range 2000 {
		all := someAll(r)
		if i%2 == 0 {
			all = sum(within(r, 30), r.IntN(12))
		}
		lefts := someLefts(r, all, r.IntN(30), i%3 > 0)
		checkOrders(t, r, 1+r.IntN(5), upTo(r, 50), all, lefts)
		if got, _ := Best(1, 0, all, lefts); len(got) > 1 {
			several++
		} else if len(got) == 0 {
			none++
		}
		if len(lefts) > 0 {
			lefts[r.IntN(len(lefts))].H = -1
			checkOrders(t, r, 1, 0, all, lefts)
		}
	}
	if several < 300 || none < 100 {
		t.Error("lists of several best ones, and of none:", several, none)
	}
}

// P17.3: every order of some lists of five.
func TestTheoremOfAllOrders(t *testing.T) {
	lists := [][]api.Sum{ones(1, 2, 3, 4, 5), ones(4, 4, -4, 3, 4), ones(0, 0, 0, 0, 0), ones(5, -5, 1, 1, 4), append(ones(5, -5, 4), sum(9, 0), sum(9, 2))}
	var order []int
	var each func()
	each = func() {
		if len(order) == 5 {
			for _, l := range lists {
				checkOrder(t, 1, 0, pair(), l, order)
				checkOrder(t, 1, 16, pair(), l, order)
			}
		}
		for i := range 5 {
			if !slices.Contains(order, i) {
				order = append(order, i)
				each()
				order = order[:len(order)-1]
			}
		}
	}
	each()
}

// P17.3: of as many lefts as may be.
func TestTheoremOfManyLefts(t *testing.T) {
	r := seeded(7)
	all := sum(-5, 256)
	lefts := make([]api.Sum, api.MaxList)
	for i := range lefts {
		lefts[i] = sum(within(r, 20), 1+r.IntN(4))
	}
	checkOrders(t, r, 1, 0, all, lefts)
}
