package central

import (
	"math/rand/v2"
	"slices"
	"testing"

	"windbreak/api"
)

// moved are the rows of all tables in an order (each place's number is its place before), and their labels.
func moved(l []api.Table, labels, order []int) ([]api.Table, []int) {
	pick := func(list []int) []int {
		var picked []int
		for _, before := range order {
			picked = append(picked, list[before])
		}
		return picked
	}
	var all []api.Table
	for _, t := range l {
		to := api.Table{Ids: pick(t.Ids), Bins: slices.Clone(t.Bins)}
		for _, column := range t.Cols {
			to.Cols = append(to.Cols, pick(column))
		}
		all = append(all, to)
	}
	return all, pick(labels)
}

// checkOrder asks that rows and labels in an order make the model that they make in their own.
func checkOrder(t testing.TB, c api.Config, l []api.Table, labels, order []int) {
	t.Helper()
	want, err := Train(c, l, labels)
	other, others := moved(l, labels, order)
	got, fails := Train(c, other, others)
	if err != api.OK || fails != api.OK || !isSame(got, want) || Sum(got) != Sum(want) {
		t.Errorf("Train(%+v, %s, %v): %+v, error %d; in the order %v: %+v, error %d", c, brief(l), labels, want, err, order, got, fails)
	}
}

// checkOrders asks that of rows turned round, one moved on, and shuffled.
func checkOrders(t testing.TB, r *rand.Rand, c api.Config, l []api.Table, labels []int) {
	t.Helper()
	turned := rising(len(labels))
	slices.Reverse(turned)
	checkOrder(t, c, l, labels, turned)
	checkOrder(t, c, l, labels, append(rising(len(labels))[1:], 0))
	for range 3 {
		checkOrder(t, c, l, labels, r.Perm(len(labels)))
	}
}

// P18.4: what Train makes may be, has as many trees as asked for, none deeper than Depth; Eval tells each row's score behind the last tree, reckoned by the rows that come to each leaf.
func TestTheoremOfScores(t *testing.T) {
	r := seeded(5)
	several := 0
	for range 800 {
		rows := 1 + r.IntN(40)
		c, l, labels := someConfig(r, 16), someTables(r, 1+r.IntN(5), rows, 4), someLabels(r, rows)
		m, err := Train(c, l, labels)
		if err != api.OK {
			t.Fatal(c, l, labels, "error", err)
		}
		checkTrained(t, c, m)
		checkScores(t, c, m, l, labels)
		if len(m.Trees) > 8 {
			several++
		}
	}
	if several < 200 {
		t.Error("models of more than 8 trees:", several)
	}
}

// P18.4: rows and labels in another order make the same model, though many splits gain the same.
func TestTheoremOfOrder(t *testing.T) {
	r := seeded(6)
	for range 400 {
		rows := 1 + r.IntN(30)
		checkOrders(t, r, someConfig(r, 5), someTables(r, 1+r.IntN(4), rows, 3), someLabels(r, rows))
	}
	for _, rows := range []int{63, 64, 65, 127, 128, 129, 255, 256} {
		checkOrders(t, r, someConfig(r, 3), someTables(r, 2, rows, 2), someLabels(r, rows))
		checkOrders(t, r, many(3, 5), someTables(r, 2, rows, 2), someLabels(r, rows))
	}
	checkOrders(t, r, many(2, 5), wholeTree(), wholeLabels())
}

// P18.4: every order of a few rows.
func TestTheoremOfAllOrders(t *testing.T) {
	c, l, labels := example()
	sets := []struct {
		c      api.Config
		l      []api.Table
		labels []int
	}{
		{c, l, labels},
		{many(3, 3), tables(table(4, []int{0, 1, 2, 3, 1})), []int{40, 10, -10, -40, 7}},
		{clipped(many(4, 2), 3), tables(table(2, []int{0, 1, 0, 1, 1}), table(3, []int{2, 2, 0, 0, 1}, []int{0, 0, 1, 1, 1})), []int{9, -9, 9, -9, 1}},
	}
	for _, s := range sets {
		var order []int
		var each func()
		each = func() {
			if len(order) == len(s.labels) {
				checkOrder(t, s.c, s.l, s.labels, order)
			}
			for i := range s.labels {
				if !slices.Contains(order, i) {
					order = append(order, i)
					each()
					order = order[:len(order)-1]
				}
			}
		}
		each()
	}
}
