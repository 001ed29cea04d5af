package reduce_test

import (
	"slices"
	"testing"

	"drawknife/api"
	"drawknife/cover"
	"drawknife/reduce"
)

// TestTake is about P14.1: all small coverings, and others.
func TestTake(t *testing.T) {
	all(t, func(x told) { x.hasTake(t) })
}

// TestRows is about P14.1: all small coverings, and others.
func TestRows(t *testing.T) {
	all(t, func(x told) { x.hasRows(t) })
}

// TestColumns is about P14.1: all small coverings, and others.
func TestColumns(t *testing.T) {
	all(t, func(x told) { x.hasColumns(t) })
}

// TestReduce is about P14.2: all small coverings, and others.
func TestReduce(t *testing.T) {
	all(t, func(x told) { x.hasReduce(t) })
}

// TestSteps is about P14.1 and P14.2: Reduce is what the other three do, the first of them that is possible again and again, also for coverings of greater specs.
func TestSteps(t *testing.T) {
	next := random(43)
	for n := 3; n < 8; n++ {
		for m := 1; m <= 2; m++ {
			hasSteps(t, asked(t, n, m, next).matrix())
		}
	}
	for tenths := range 4 {
		hasSteps(t, mixed(80, 120, tenths, next).matrix())
		hasSteps(t, mixed(150, 40, tenths, next).matrix())
	}
}

// hasSteps checks what Reduce returns by what the other three do.
func hasSteps(t *testing.T, m cover.Matrix) {
	t.Helper()
	left, taken, again := m, []int(nil), true
	for again {
		var c int
		if left, c, again = reduce.Take(left); again {
			taken = append(taken, c)
		} else if left, again = reduce.Rows(left); !again {
			left, again = reduce.Columns(left)
		}
	}
	slices.Sort(taken)
	if got, end, e := reduce.Reduce(m); e != api.OK || !slices.Equal(got, taken) || !equal(end, left) {
		t.Fatalf("Reduce(%v) = %v, %v, %d, not %v, %v", of(m), got, of(end), e, taken, of(left))
	}
}

// TestTakeEdges is about P14.1: what is taken is told by hand.
func TestTakeEdges(t *testing.T) {
	for _, c := range []struct {
		cols       int
		rows, left [][]int
		col        int
		ok         bool
	}{
		{0, nil, nil, 0, false},
		{0, [][]int{{}}, [][]int{{}}, 0, false},
		{4000, nil, nil, 0, false},
		{3, [][]int{{}, {}}, [][]int{{}, {}}, 0, false},
		{2, [][]int{{0, 1}}, [][]int{{0, 1}}, 0, false},
		{1, [][]int{{0}}, nil, 0, true},
		{2, [][]int{{1}}, nil, 1, true},
		{2, [][]int{{1}, {0}}, [][]int{{0}}, 1, true},
		{2, [][]int{{0}, {1}}, [][]int{{1}}, 0, true},
		{2, [][]int{{1}, {1}, {1}}, nil, 1, true},
		{2, [][]int{{}, {1}}, [][]int{{}}, 1, true},
		{3, [][]int{{0, 1}, {2}, {1, 2}}, [][]int{{0, 1}}, 2, true},
		{3, [][]int{{0, 1}, {1, 2}, {2}, {1}, {0, 2}}, [][]int{{0, 1}, {1}}, 2, true},
		{4, [][]int{{0, 1, 2, 3}, {1}, {0, 2, 3}, {3}, {1}, {1, 3}}, [][]int{{0, 2, 3}, {3}}, 1, true},
		{4, [][]int{{3}, {2, 3}, {0, 3}, {0, 2}}, [][]int{{0, 2}}, 3, true},
		{4000, [][]int{{0, 3999}, {3999}, {1, 2}}, [][]int{{1, 2}}, 3999, true},
	} {
		m, col, ok := reduce.Take(cover.Matrix{Cols: c.cols, Rows: c.rows})
		if !equal(m, cover.Matrix{Cols: c.cols, Rows: c.left}) || col != c.col || ok != c.ok {
			t.Errorf("Take of %d, %v: %v, %d, %v", c.cols, c.rows, m, col, ok)
		}
	}
}

// TestRowsEdges is about P14.1: what is removed is told by hand.
func TestRowsEdges(t *testing.T) {
	for _, c := range []struct {
		cols       int
		rows, left [][]int
		ok         bool
	}{
		{0, nil, nil, false},
		{4000, nil, nil, false},
		{0, [][]int{{}}, [][]int{{}}, false},
		{0, [][]int{{}, {}, {}}, [][]int{{}, {}}, true},
		{1, [][]int{{0}}, [][]int{{0}}, false},
		{1, [][]int{{0}, {0}}, [][]int{{0}}, true},
		{2, [][]int{{0}, {1}}, [][]int{{0}, {1}}, false},
		{2, [][]int{{}, {1}}, [][]int{{}}, true},
		{2, [][]int{{0, 1}, {}, {1}}, [][]int{{}, {1}}, true},
		{3, [][]int{{0, 1, 2}, {1, 2}}, [][]int{{1, 2}}, true},
		{3, [][]int{{1, 2}, {0, 1, 2}}, [][]int{{1, 2}}, true},
		{3, [][]int{{0, 1}, {1, 2}, {0, 2}}, [][]int{{0, 1}, {1, 2}, {0, 2}}, false},
		{3, [][]int{{0, 1}, {1, 2}, {0, 1}}, [][]int{{0, 1}, {1, 2}}, true},
		{3, [][]int{{0, 1}, {1, 2}, {1, 2}, {0, 1}}, [][]int{{0, 1}, {1, 2}, {0, 1}}, true},
		{3, [][]int{{1, 2}, {1, 2}, {0, 1, 2}, {2}}, [][]int{{1, 2}, {0, 1, 2}, {2}}, true},
		{3, [][]int{{0, 1, 2}, {0, 1}, {0}}, [][]int{{0, 1}, {0}}, true},
		{3, [][]int{{0}, {0, 1}, {0, 1, 2}}, [][]int{{0}, {0, 1, 2}}, true},
		{4, [][]int{{0, 3}, {0, 1, 2}, {1, 2, 3}, {1, 2}}, [][]int{{0, 3}, {1, 2, 3}, {1, 2}}, true},
		{4, [][]int{{0, 2}, {1, 3}, {1, 2, 3}, {0, 2, 3}}, [][]int{{0, 2}, {1, 3}, {0, 2, 3}}, true},
		{4, [][]int{{0, 1, 2}, {1, 2, 3}, {0, 3}}, [][]int{{0, 1, 2}, {1, 2, 3}, {0, 3}}, false},
		{4000, [][]int{{0, 3998}, {0, 3998, 3999}}, [][]int{{0, 3998}}, true},
	} {
		m, ok := reduce.Rows(cover.Matrix{Cols: c.cols, Rows: c.rows})
		if !equal(m, cover.Matrix{Cols: c.cols, Rows: c.left}) || ok != c.ok {
			t.Errorf("Rows of %d, %v: %v, %v", c.cols, c.rows, m, ok)
		}
	}
}

// TestColumnsEdges is about P14.1: what is removed is told by hand; columns that are in no row are not.
func TestColumnsEdges(t *testing.T) {
	for _, c := range []struct {
		cols       int
		rows, left [][]int
		ok         bool
	}{
		{0, nil, nil, false},
		{4000, nil, nil, false},
		{0, [][]int{{}}, [][]int{{}}, false},
		{3, [][]int{{}, {}}, [][]int{{}, {}}, false},
		{1, [][]int{{0}}, [][]int{{0}}, false},
		{4, [][]int{{2}, {2}}, [][]int{{2}, {2}}, false},
		{2, [][]int{{0}, {1}}, [][]int{{0}, {1}}, false},
		{2, [][]int{{0, 1}}, [][]int{{0}}, true},
		{2, [][]int{{0, 1}, {}, {0, 1}}, [][]int{{0}, {}, {0}}, true},
		{4, [][]int{{0, 1, 2, 3}}, [][]int{{0, 2, 3}}, true},
		{2, [][]int{{0, 1}, {1}}, [][]int{{1}, {1}}, true},
		{2, [][]int{{0, 1}, {0}}, [][]int{{0}, {0}}, true},
		{3, [][]int{{0, 1}, {1, 2}}, [][]int{{1}, {1, 2}}, true},
		{3, [][]int{{0, 1}, {1, 2}, {0, 2}}, [][]int{{0, 1}, {1, 2}, {0, 2}}, false},
		{3, [][]int{{0, 1}, {1, 2}, {0, 1, 2}}, [][]int{{1}, {1, 2}, {1, 2}}, true},
		{3, [][]int{{0, 2}, {1, 2}, {0, 1}, {0, 1, 2}, {2}}, [][]int{{0, 2}, {1, 2}, {0, 1}, {0, 1, 2}, {2}}, false},
		{4, [][]int{{0, 3}, {1, 3}, {0, 1}, {2, 3}}, [][]int{{0, 3}, {1, 3}, {0, 1}, {3}}, true},
		{4, [][]int{{0, 3}, {1, 3}, {0, 1}, {1, 2}}, [][]int{{0, 3}, {1, 3}, {0, 1}, {1}}, true},
		{4, [][]int{{0, 1, 3}, {0, 2, 3}, {1, 2}}, [][]int{{0, 1}, {0, 2}, {1, 2}}, true},
		{4, [][]int{{0, 3}, {1, 2, 3}, {1, 2, 3}, {0}}, [][]int{{0, 3}, {2, 3}, {2, 3}, {0}}, true},
		{4, [][]int{{0, 3}, {0}, {1, 3}, {1}, {2, 3}, {2}}, [][]int{{0, 3}, {0}, {1, 3}, {1}, {2, 3}, {2}}, false},
		{4000, [][]int{{0, 3998, 3999}, {3998}, {0}}, [][]int{{0, 3998}, {3998}, {0}}, true},
	} {
		m, ok := reduce.Columns(cover.Matrix{Cols: c.cols, Rows: c.rows})
		if !equal(m, cover.Matrix{Cols: c.cols, Rows: c.left}) || ok != c.ok {
			t.Errorf("Columns of %d, %v: %v, %v", c.cols, c.rows, m, ok)
		}
	}
}

// TestReduceEdges is about P14.2: what is taken and left is told by hand.
func TestReduceEdges(t *testing.T) {
	for _, c := range []struct {
		cols  int
		rows  [][]int
		taken []int
		left  [][]int
	}{
		{0, nil, nil, nil},
		{4000, nil, nil, nil},
		{0, [][]int{{}, {}}, nil, [][]int{{}}},
		{3, [][]int{{}}, nil, [][]int{{}}},
		{2, [][]int{{0, 1}, {}}, nil, [][]int{{}}},
		{2, [][]int{{}, {1}}, []int{1}, [][]int{{}}},
		{2, [][]int{{1}, {0}}, []int{0, 1}, nil},
		{4, [][]int{{3}, {1}, {2}, {1}}, []int{1, 2, 3}, nil},
		{2, [][]int{{0, 1}, {0, 1}}, []int{0}, nil},
		{3, [][]int{{0}, {0, 1}, {1, 2}}, []int{0, 1}, nil},
		{3, [][]int{{1, 2}, {1}, {0, 2}}, []int{0, 1}, nil},
		{3, [][]int{{0, 1}, {1, 2}}, []int{1}, nil},
		{3, [][]int{{0, 1}, {1, 2}, {0, 2}}, nil, [][]int{{0, 1}, {1, 2}, {0, 2}}},
		{4, [][]int{{0, 2, 3}, {0, 1}, {0, 2}, {1, 2}}, nil, [][]int{{0, 1}, {0, 2}, {1, 2}}},
		{4, [][]int{{0, 2}, {1, 3}, {0, 1}, {2, 3}}, nil, [][]int{{0, 2}, {1, 3}, {0, 1}, {2, 3}}},
		{5, [][]int{{1, 2}, {2, 3}, {4}, {1, 3}, {0, 4}}, []int{4}, [][]int{{1, 2}, {2, 3}, {1, 3}}},
		{5, [][]int{{0, 2}, {1, 2}, {0, 1, 3}, {3, 4}}, []int{2, 3}, nil},
	} {
		taken, m, e := reduce.Reduce(cover.Matrix{Cols: c.cols, Rows: c.rows})
		if e != api.OK || !slices.Equal(taken, c.taken) || !equal(m, cover.Matrix{Cols: c.cols, Rows: c.left}) {
			t.Errorf("Reduce of %d, %v: %v, %v, %d", c.cols, c.rows, taken, m, e)
		}
	}
}

// TestOrder is about P14.2: of the three the first that is possible is done: another one would lead to other columns.
func TestOrder(t *testing.T) {
	for _, c := range []struct {
		x     told
		taken []int
		left  []string
	}{
		// After 2 is taken the columns 0 and 1 are in one row each; before that 1 is in more.
		{told{3, []string{"011", "110", "001"}}, []int{0, 2}, nil},
		{told{3, []string{"100", "101", "011"}}, []int{0, 1}, nil},
		// After the row 1, 2, 3 is gone the columns 0 and 3 are in one row each; before that 3 is in more.
		{told{4, []string{"1001", "0111", "0110"}}, []int{0, 1}, nil},
		{told{4, []string{"1001", "1001", "0111", "0110"}}, []int{0, 1}, nil},
		// The rows that have 3 go before it could be removed.
		{told{4, []string{"1101", "0111", "1011", "1010", "0110", "1100"}}, nil, []string{"1010", "0110", "1100"}},
		{told{4, []string{"1100", "0110", "1010", "1111"}}, nil, []string{"1100", "0110", "1010"}},
		{told{4, []string{"1001", "0001", "0110", "0010"}}, []int{2, 3}, nil},
	} {
		taken, m, e := reduce.Reduce(c.x.matrix())
		if e != api.OK || !slices.Equal(taken, c.taken) || !slices.Equal(of(m).rows, c.left) {
			t.Errorf("Reduce(%v) = %v, %v, %d", c.x, taken, of(m), e)
		}
	}
}

// masks are the rows, as numbers with a bit for each column.
func masks(m cover.Matrix) []int {
	var l []int
	for _, row := range m.Rows {
		bits := 0
		for _, c := range row {
			bits += 1 << c
		}
		l = append(l, bits)
	}
	return l
}

// solvers are all choices of columns that solve a covering, as numbers with a bit for each column.
func solvers(m cover.Matrix) []bool {
	rows := masks(m)
	l := make([]bool, 1<<m.Cols)
	for some := range l {
		l[some] = !slices.ContainsFunc(rows, func(row int) bool { return row&some == 0 })
	}
	return l
}

// least is the smallest number of columns that solve a covering: below 0 if none do.
func least(solve []bool) int {
	best := -1
	for some, yes := range solve {
		if many := len(pick(some)); yes && (best < 0 || many < best) {
			best = many
		}
	}
	return best
}

// hasNoLoss checks by all choices of columns that nothing is lost.
func (x told) hasNoLoss(t *testing.T) {
	t.Helper()
	m := x.matrix()
	taken, left, e := reduce.Reduce(m)
	if e != api.OK || !cover.Right(left) || left.Cols != m.Cols {
		t.Fatalf("Reduce(%v) = %v, %v, %d", x, taken, left, e)
	}
	before, after := solvers(m), solvers(left)
	want, rest := least(before), least(after)
	if (want < 0) != (rest < 0) || want >= 0 && want != rest+len(taken) {
		t.Fatalf("Reduce(%v) = %v, %v: %d columns solve what is left, %d all", x, taken, left, rest, want)
	}
	bits := masks(cover.Matrix{Cols: m.Cols, Rows: [][]int{taken}})[0]
	for some, yes := range after {
		if yes && !before[some|bits] {
			t.Fatalf("Reduce(%v) = %v, %v: with %v not all rows are solved", x, taken, left, pick(some))
		}
	}
	for c, text := range columns(of(left)) {
		if bits>>c%2 == 1 && ones(text) > 0 {
			t.Fatalf("Reduce(%v) = %v, %v: a row has a column that was taken", x, taken, left)
		}
	}
}

// columns are the texts of all columns.
func columns(x told) []string {
	var l []string
	for c := range x.cols {
		l = append(l, x.column(c))
	}
	return l
}

// TestNoLoss is about P14.3: all choices of the columns of all small coverings, and others.
func TestNoLoss(t *testing.T) {
	all(t, func(x told) {
		if x.cols <= 8 {
			x.hasNoLoss(t)
		}
	})
	next := random(47)
	for cols := 9; cols <= 12; cols++ {
		for rows := 5; rows <= 20; rows += 5 {
			for tenths := 1; tenths < 7; tenths++ {
				mixed(cols, rows, tenths, next).hasNoLoss(t)
			}
		}
		for _, x := range shaped(cols) {
			x.hasNoLoss(t)
		}
	}
}

// TestNoLossOfOne is about P14.3: each of the three alone leaves the smallest number, but for what it takes.
func TestNoLossOfOne(t *testing.T) {
	all(t, func(x told) {
		if x.cols > 6 || len(x.rows) > 8 {
			return
		}
		want := least(solvers(x.matrix()))
		left, _, ok := reduce.Take(x.matrix())
		if rest := least(solvers(left)); ok && (want < 0) != (rest < 0) || ok && want >= 0 && rest+1 != want {
			t.Fatalf("Take(%v) = %v", x, left)
		}
		left, _ = reduce.Rows(x.matrix())
		if least(solvers(left)) != want {
			t.Fatalf("Rows(%v) = %v", x, left)
		}
		left, _ = reduce.Columns(x.matrix())
		if least(solvers(left)) != want {
			t.Fatalf("Columns(%v) = %v", x, left)
		}
	})
}

// stays checks that a covering cannot be reduced.
func stays(t *testing.T, m cover.Matrix) {
	t.Helper()
	x := of(m)
	_, a := x.take()
	_, b := x.lessRows()
	_, c := x.lessColumns()
	if a >= 0 || b >= 0 || c >= 0 {
		t.Fatalf("%v can be reduced: %d, %d, %d", x, a, b, c)
	}
	if left, c, ok := reduce.Take(m); ok || c != 0 || !equal(left, m) {
		t.Fatalf("Take(%v) = %v, %d, %v", x, left, c, ok)
	}
	if left, ok := reduce.Rows(m); ok || !equal(left, m) {
		t.Fatalf("Rows(%v) = %v, %v", x, left, ok)
	}
	if left, ok := reduce.Columns(m); ok || !equal(left, m) {
		t.Fatalf("Columns(%v) = %v, %v", x, left, ok)
	}
	if taken, left, e := reduce.Reduce(m); e != api.OK || len(taken) != 0 || !equal(left, m) {
		t.Fatalf("Reduce(%v) = %v, %v, %d", x, taken, left, e)
	}
}

// TestStays is about P14.4: what is left cannot be reduced, by any of the four calls.
func TestStays(t *testing.T) {
	check := func(x told) {
		_, left, e := reduce.Reduce(x.matrix())
		if e != api.OK {
			t.Fatalf("Reduce(%v): %d", x, e)
		}
		stays(t, left)
	}
	all(t, check)
	next := random(53)
	some := 0
	for tenths := 1; tenths < 8; tenths++ {
		x := mixed(60, 60, tenths, next)
		check(x)
		if _, left, _ := reduce.Reduce(x.matrix()); len(left.Rows) > 10 {
			some++
		}
	}
	for n := 3; n < 40; n++ {
		stays(t, shaped(n)[0].matrix())
	}
	if some < 3 {
		t.Errorf("only of %d there is much left", some)
	}
}

// TestNumbers is about P14.1 and P14.2: columns keep their numbers: those of a covering whose columns have other numbers, in the same order, among many that are in no row.
func TestNumbers(t *testing.T) {
	next := random(59)
	for _, cols := range []int{10, 64, 65, 257, 3999, 4000} {
		for k := range 60 {
			x := mixed(3+k%7, 2+k%9, 1+k%8, next)
			to := append(counted(x.cols-1), cols-1)
			for c := x.cols - 2; c >= 0; c-- {
				to[c] = c + next(to[c+1]-c)
			}
			hasNumbers(t, x, cols, to)
		}
	}
}

// numbered are the columns by their other numbers.
func numbered(l, to []int) []int {
	var other []int
	for _, c := range l {
		other = append(other, to[c])
	}
	return other
}

// hasNumbers checks the four calls with the columns by their other numbers.
func hasNumbers(t *testing.T, x told, cols int, to []int) {
	t.Helper()
	other := func(y told) cover.Matrix {
		m := cover.Matrix{Cols: cols}
		for _, row := range y.matrix().Rows {
			m.Rows = append(m.Rows, numbered(row, to))
		}
		return m
	}
	m := other(x)
	taken, end := x.reduced()
	if got, left, e := reduce.Reduce(m); e != api.OK || !slices.Equal(got, numbered(taken, to)) || !equal(left, other(end)) {
		t.Fatalf("Reduce(%v) = %v, %v, %d", m, got, left, e)
	}
	want, c := x.take()
	if left, got, ok := reduce.Take(m); ok != (c >= 0) || ok && got != to[c] || !equal(left, other(want)) {
		t.Fatalf("Take(%v) = %v, %d, %v", m, left, got, ok)
	}
	want, c = x.lessRows()
	if left, ok := reduce.Rows(m); ok != (c >= 0) || !equal(left, other(want)) {
		t.Fatalf("Rows(%v) = %v, %v", m, left, ok)
	}
	want, c = x.lessColumns()
	if left, ok := reduce.Columns(m); ok != (c >= 0) || !equal(left, other(want)) {
		t.Fatalf("Columns(%v) = %v, %v", m, left, ok)
	}
}

// TestMany is about P14.2: as many columns as there may be, and many rows.
func TestMany(t *testing.T) {
	ones, pairs, chain, ring := [][]int{}, [][]int{}, [][]int{}, [][]int{}
	for k := range 4000 {
		ones = append(ones, []int{3999 - k})
		pairs = append(pairs, []int{k / 2 * 2, k/2*2 + 1})
		chain = append(chain, []int{k / 40, k/40 + 1})
		ring = append(ring, []int{min(k, (k+1)%4000), max(k, (k+1)%4000)})
	}
	var even, odd []int
	for k := range 2000 {
		even = append(even, 2*k)
	}
	for k := range 50 {
		odd = append(odd, 2*k+1)
	}
	for k, c := range []struct {
		rows  [][]int
		taken []int
		left  [][]int
	}{
		{ones, counted(4000), nil},
		{slices.Concat(ones, ones), counted(4000), nil},
		{pairs, even, nil},
		{chain, odd, nil},
		{ring, nil, ring},
		{slices.Repeat([][]int{{}}, 9000), nil, [][]int{{}}},
		{slices.Repeat([][]int{{1, 2, 5}}, 9000), []int{1}, nil},
		{slices.Repeat([][]int{counted(4000)}, 2)[:1], []int{0}, nil},
	} {
		taken, m, e := reduce.Reduce(cover.Matrix{Cols: 4000, Rows: c.rows})
		if e != api.OK || !slices.Equal(taken, c.taken) || !equal(m, cover.Matrix{Cols: 4000, Rows: c.left}) {
			t.Errorf("Reduce %d: %v, %d rows, %d", k, taken, len(m.Rows), e)
		}
	}
}

// TestWrong is about P14.1 and P14.2: all lists of up to three numbers that are no row, alone and among rows with which much can be done.
func TestWrong(t *testing.T) {
	var lists [][]int
	numbers := []int{-1, 0, 1, 2, 3}
	for _, a := range numbers {
		lists = append(lists, []int{a})
		for _, b := range numbers {
			lists = append(lists, []int{a, b})
			for _, c := range numbers {
				lists = append(lists, []int{a, b, c})
			}
		}
	}
	for _, k := range odd {
		lists = append(lists, []int{k}, []int{0, k}, []int{k, 0})
	}
	for cols := range 4 {
		some := [][]int{{0}, {0}, {0, 1}, counted(cols), counted(cols)}
		if cols < 2 {
			some = [][]int{{}, {}}
		}
		for _, l := range lists {
			if cover.Right(cover.Matrix{Cols: cols, Rows: [][]int{l}}) {
				continue
			}
			for _, rows := range [][][]int{{l}, {l, l}, append([][]int{l}, some...), append(slices.Clone(some), l), slices.Concat(some, [][]int{l}, some)} {
				refused(t, cover.Matrix{Cols: cols, Rows: rows})
			}
		}
	}
	for _, cols := range odd {
		for _, rows := range [][][]int{nil, {}, {{}}, {{0}}, {{0}, {0}}, {{0, 1}}, {{0, 1}, {1, 2}}, {{1, 0}}, {{-1}}} {
			refused(t, cover.Matrix{Cols: cols, Rows: rows})
		}
	}
}

// TestExample is the chapter's.
func TestExample(t *testing.T) {
	m := cover.Matrix{Cols: 3, Rows: [][]int{{0}, {0, 1}, {1, 2}}}
	left, c, ok := reduce.Take(m)
	if !equal(left, cover.Matrix{Cols: 3, Rows: [][]int{{1, 2}}}) || c != 0 || !ok {
		t.Errorf("Take(%v) = %v, %d, %v", m, left, c, ok)
	}
	left, ok = reduce.Columns(left)
	if !equal(left, cover.Matrix{Cols: 3, Rows: [][]int{{1}}}) || !ok {
		t.Errorf("then Columns: %v, %v", left, ok)
	}
	taken, left, e := reduce.Reduce(m)
	if !slices.Equal(taken, []int{0, 1}) || !equal(left, cover.Matrix{Cols: 3}) || e != api.OK {
		t.Errorf("Reduce(%v) = %v, %v, %d", m, taken, left, e)
	}
}

// overwrite changes a list of rows and the rows, spare capacity included, and checks that no two rows share any.
func overwrite(t *testing.T, rows [][]int) {
	t.Helper()
	for k, row := range rows {
		row = row[:cap(row)]
		for j := range row {
			row[j] = -k - 5
		}
	}
	for k, row := range rows {
		for _, c := range row[:cap(row)] {
			if c != -k-5 {
				t.Fatalf("two rows share memory: %v", rows)
			}
		}
	}
	rows = rows[:cap(rows)]
	for k := range rows {
		rows[k] = []int{77}
	}
}

// calls makes the four calls, and returns the coverings and lists of columns that they return.
func calls(m cover.Matrix) ([]cover.Matrix, [][]int) {
	a, c, _ := reduce.Take(m)
	b, _ := reduce.Rows(m)
	d, _ := reduce.Columns(m)
	taken, e, _ := reduce.Reduce(m)
	return []cover.Matrix{a, b, d, e}, [][]int{{c}, taken}
}

// TestMemory is about P0 (R3): arguments stay as they are, behind their ends too, and what a call returned is nobody else's, spare capacity included.
func TestMemory(t *testing.T) {
	next := random(61)
	for k := range 400 {
		m := mixed(2+k%8, 1+k%7, 1+k%9, next).matrix()
		if k%50 == 49 {
			m.Cols = odd[k/50]
		}
		// One row twice in the same memory, and room behind all of them.
		m.Rows = append(m.Rows, m.Rows[0])
		for j, row := range m.Rows[:len(m.Rows)-1] {
			m.Rows[j] = append(row, 88, 99)[:len(row)]
		}
		m.Rows = append(m.Rows, []int{1, 2, 3}, nil)[:len(m.Rows)]
		var before [][]int
		for _, row := range m.Rows[:len(m.Rows)+2] {
			before = append(before, slices.Clone(row[:cap(row)]))
		}
		first, taken := calls(m)
		second, same := calls(m)
		for _, got := range first {
			overwrite(t, got.Rows)
		}
		for _, l := range taken {
			l = l[:cap(l)]
			for j := range l {
				l[j] = -1
			}
		}
		third, last := calls(m)
		if !slices.EqualFunc(second, third, equal) || !slices.EqualFunc(same, last, slices.Equal) {
			t.Fatalf("%v: %v, %v, then %v, %v", m, second, same, third, last)
		}
		for j, row := range m.Rows[:len(m.Rows)+2] {
			if !slices.Equal(row[:cap(row)], before[j]) {
				t.Fatalf("row %d has become %v, and was %v", j, row[:cap(row)], before[j])
			}
		}
	}
}

// TestSame is about P0 (R1, R4): any arguments, always with the same results.
func TestSame(t *testing.T) {
	next := random(67)
	for k := range 30000 {
		m := cover.Matrix{Cols: next(8) - 1}
		for range next(5) {
			var l []int
			for range next(4) {
				l = append(l, next(9)-1+k%2*len(l))
			}
			m.Rows = append(m.Rows, l)
		}
		first, taken := calls(m)
		for range 2 {
			if again, l := calls(m); !slices.EqualFunc(first, again, equal) || !slices.EqualFunc(taken, l, slices.Equal) {
				t.Fatalf("%v: %v, %v, then %v, %v", m, first, taken, again, l)
			}
		}
		if !cover.Right(m) {
			refused(t, m)
		}
	}
}
