package dataset

import (
	"math"
	"slices"
	"testing"

	"windbreak/api"
)

// P15.2: no ids, its own ones, all in another order, some of them.
func TestTake(t *testing.T) {
	r := seeded(10)
	for _, x := range manyTables() {
		rows := len(x.Ids)
		taken, err := Take(x, x.Ids)
		isTable(t, "its own ids", taken, err, x)
		for _, none := range [][]int{nil, {}, make([]int, 0, 3)} {
			taken, err = Take(x, none)
			isTable(t, "no ids", taken, err, api.Table{Bins: x.Bins, Cols: make([][]int, len(x.Cols))})
		}
		other := slices.Clone(x.Ids)
		slices.Reverse(other)
		checkTake(t, x, other)
		for range 3 {
			r.Shuffle(rows, func(i, j int) { other[i], other[j] = other[j], other[i] })
			checkTake(t, x, other)
			checkTake(t, x, other[:rows/2])
			checkTake(t, x, other[rows/2:])
		}
		for _, i := range ends(rows) {
			if rows > 0 {
				checkTake(t, x, []int{x.Ids[i]})
				checkTake(t, x, slices.Delete(slices.Clone(x.Ids), i, i+1))
			}
		}
	}
}

// P15.2: an id that the table has not, wherever it stands; one that stands twice; ones that may not be.
func TestTakeOfWrongIds(t *testing.T) {
	for _, x := range manyTables() {
		for _, wrong := range wrongIds() {
			taken, err := Take(x, wrong)
			isNoTable(t, "no ids", taken, err, api.ErrTable)
		}
		rows := len(x.Ids)
		strange := strangeTo(x.Ids)
		for _, ids := range [][]int{{strange}, append(slices.Clone(x.Ids), strange), append([]int{strange}, x.Ids...)} {
			taken, err := Take(x, ids)
			isNoTable(t, "one that it has not", taken, err, api.ErrTable)
		}
		for _, i := range ends(rows) {
			if rows == 0 {
				continue
			}
			ids := slices.Clone(x.Ids)
			for _, id := range append(noIds(), strange) {
				ids[i] = id
				taken, err := Take(x, ids)
				isNoTable(t, "one that it has not", taken, err, api.ErrTable)
			}
			for _, ids := range [][]int{{x.Ids[i], x.Ids[i]}, append(slices.Clone(x.Ids), x.Ids[i]), append([]int{x.Ids[i]}, x.Ids...)} {
				taken, err := Take(x, ids)
				isNoTable(t, "one twice", taken, err, api.ErrTable)
			}
		}
	}
}

// P15.2: of a table that may not be, whatever the ids are.
func TestTakeOfWrongTables(t *testing.T) {
	for _, w := range wrongTables() {
		for _, ids := range [][]int{nil, {}, w.t.Ids, w.t.Ids[:len(w.t.Ids)/2], {0}, {-1}, {1, 1}, rising(300)} {
			taken, err := Take(w.t, ids)
			isNoTable(t, w.why, taken, err, api.ErrTable)
		}
	}
}

// P15.2: every table of few rows by every few ids.
func TestTakeOfAllSmall(t *testing.T) {
	for _, own := range arrangements(3) {
		x := api.Table{Ids: own, Bins: []int{3, 32}, Cols: [][]int{nil, nil}}
		for i, id := range own {
			x.Cols[0] = append(x.Cols[0], id)
			x.Cols[1] = append(x.Cols[1], 29+i)
		}
		for count := range 4 {
			for code := range 5 * 5 * 5 {
				ids := []int{code%5 - 1, code/5%5 - 1, code/25 - 1}[:count]
				checkTake(t, x, ids)
				taken, err := Take(x, ids)
				if err == api.OK && !slices.Equal(taken.Cols[0], ids) {
					t.Error("by", ids, "of", own, taken.Cols)
				}
			}
		}
	}
}

// P15.4: each cut of each column, those too that are none.
func TestLeft(t *testing.T) {
	for _, x := range manyTables() {
		for column := -2; column < len(x.Cols)+3; column++ {
			for cut := -2; cut < 36; cut++ {
				checkLeft(t, x, column, cut)
			}
		}
	}
}

// P15.4: a column, or a cut, that is far from any.
func TestLeftOfNone(t *testing.T) {
	far := []int{math.MinInt, -1 << 32, -256, -17, -1, 33, 256, 1 << 31, 1 << 32, 1<<32 + 1, math.MaxInt}
	for _, x := range manyTables() {
		for _, n := range far {
			s, err := Left(x, n, 0)
			isNoSet(t, "column", s, err, api.ErrArg)
			s, err = Left(x, 0, n)
			isNoSet(t, "cut", s, err, api.ErrArg)
			s, err = Left(x, n, n)
			isNoSet(t, "column and cut", s, err, api.ErrArg)
		}
		for column, bins := range x.Bins {
			s, err := Left(x, column, bins)
			isNoSet(t, "as many as Bins", s, err, api.ErrArg)
			s, err = Left(x, column, bins-1)
			isSet(t, "the last cut", s, err, bitsOf(len(x.Ids), rising(len(x.Ids))))
		}
		s, err := Left(x, len(x.Cols), 0)
		isNoSet(t, "one more than the last column", s, err, api.ErrArg)
	}
}

// P15.4: of a table that may not be, be the column and the cut ones that it has or not.
func TestLeftOfWrongTables(t *testing.T) {
	for _, w := range wrongTables() {
		for _, column := range []int{math.MinInt, -1, 0, 1, 15, 16, 17, math.MaxInt} {
			for _, cut := range []int{math.MinInt, -1, 0, 1, 2, 31, 32, 33, math.MaxInt} {
				s, err := Left(w.t, column, cut)
				isNoSet(t, w.why, s, err, api.ErrTable)
			}
		}
	}
}

// P15.4: one row alone to the left, or all but one, at each place of several words.
func TestLeftAtEachPlace(t *testing.T) {
	for _, rows := range []int{1, 63, 64, 65, 130, 256} {
		x := api.Table{Ids: rising(rows), Bins: []int{3, 3}, Cols: [][]int{make([]int, rows), make([]int, rows)}}
		for row := range rows {
			for i := range rows {
				x.Cols[0][i], x.Cols[1][i] = 2, 0
			}
			x.Cols[0][row], x.Cols[1][row] = 1, 1
			var others []int
			for i := range rows {
				if i != row {
					others = append(others, i)
				}
			}
			for cut, want := range [][]int{nil, {row}, rising(rows)} {
				s, err := Left(x, 0, cut)
				isSet(t, "one row", s, err, bitsOf(rows, want))
			}
			for cut, want := range [][]int{others, rising(rows), rising(rows)} {
				s, err := Left(x, 1, cut)
				isSet(t, "all but one", s, err, bitsOf(rows, want))
			}
		}
	}
}
