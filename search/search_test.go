package search_test

import (
	"math"
	"slices"
	"testing"

	"drawknife/api"
	"drawknife/cover"
	"drawknife/reduce"
	"drawknife/search"
)

// TestBound is about P15.1: all small coverings, and others.
func TestBound(t *testing.T) {
	all(t, func(x told) { x.hasBound(t) })
}

// TestGreedy is about P15.1: all small coverings, and others, also those with a row that has no column.
func TestGreedy(t *testing.T) {
	all(t, func(x told) { x.hasGreedy(t) })
}

// TestFewest is about P15.2 and P15.4: all small coverings, and others, with all numbers of steps.
func TestFewest(t *testing.T) {
	searched := 0
	all(t, func(x told) {
		if x.bare() {
			x.hasNone(t)
		} else if x.hasFewest(t, x.least()) > 0 {
			searched++
		}
	})
	if searched < 200 {
		t.Errorf("only %d coverings needed steps", searched)
	}
}

// TestSearched is about P15.2 and P15.4: coverings at random of which not much can be reduced.
func TestSearched(t *testing.T) {
	next := random(73)
	searched := 0
	for cols := 5; cols <= 24; cols++ {
		for each := 2; each <= 5; each++ {
			for range 12 {
				x := regular(cols, cols/2+next(2*cols), each, next)
				if x.hasFewest(t, x.least()) > 1 {
					searched++
				}
			}
		}
	}
	if searched < 300 {
		t.Errorf("only %d coverings needed more than one step", searched)
	}
}

// TestGreater is about P15.2: coverings at random that need many steps.
func TestGreater(t *testing.T) {
	next := random(103)
	searched := 0
	for cols := 30; cols <= 48; cols++ {
		for each := 3; each <= 5; each++ {
			for range 4 {
				x := regular(cols, cols+next(cols/2), each, next)
				l, n, e := search.Fewest(x.matrix(), api.MaxSteps)
				if want := x.least(); e != api.OK || len(l) != want {
					t.Errorf("Fewest(%v) = %v, %d, %d, not %d columns", x, l, n, e, want)
				}
				x.isList(t, l)
				if n > 10 {
					searched++
				}
			}
		}
	}
	if searched < 50 {
		t.Errorf("only %d coverings needed many steps", searched)
	}
}

// TestTwelve is about P15.2: of coverings with up to 12 columns none needs more than 2^(columns + 1) steps, also if all rows have as many columns, or all of some kinds are there.
func TestTwelve(t *testing.T) {
	next := random(79)
	for cols := 1; cols <= 12; cols++ {
		for each := 1; each <= cols; each++ {
			whole := told{cols: cols}
			for bits := range 1 << cols {
				if l := pick(bits); len(l) == each {
					whole.rows = append(whole.rows, text(cols, l))
				}
			}
			whole.hasFewest(t, cols-each+1)
			for k := 1; k < 9; k += 3 {
				part := told{cols: cols}
				for _, row := range whole.rows {
					if next(9) < k {
						part.rows = append(part.rows, row)
					}
				}
				part.hasFewest(t, part.least())
			}
		}
	}
}

// TestBoundEdges is about P15.1: bounds that are told by hand.
func TestBoundEdges(t *testing.T) {
	for _, c := range []struct {
		cols int
		rows [][]int
		want int
	}{
		{0, nil, 0},
		{0, [][]int{}, 0},
		{4000, nil, 0},
		{0, [][]int{{}}, 1},
		{0, [][]int{{}, {}, nil}, 3},
		{2, [][]int{{0}, {}, {0}, {}}, 3},
		{1, [][]int{{0}}, 1},
		{1, [][]int{{0}, {0}, {0}}, 1},
		{3, [][]int{{0}, {1}, {2}}, 3},
		{6, [][]int{{0, 5}, {1, 4}, {2, 3}}, 3},
		{4, [][]int{{0, 3}, {1, 3}, {2, 3}, {3}}, 1},
		{3, [][]int{{0, 1}, {1, 2}, {0, 2}}, 1},
		// The first row is selected, though without it there would be more.
		{3, [][]int{{0, 1, 2}, {0}, {1}, {2}}, 1},
		{3, [][]int{{0}, {0, 1, 2}, {1}, {2}}, 3},
		{4, [][]int{{1, 2}, {0, 1}, {2, 3}}, 1},
		{4, [][]int{{0, 1}, {1, 2}, {2, 3}}, 2},
		{4, [][]int{{2, 3}, {1, 2}, {0, 1}}, 2},
		// A row that is not selected is in the way of no other one.
		{5, [][]int{{0, 1}, {1, 2, 3}, {3, 4}, {2}}, 3},
		{4000, [][]int{{0, 3999}, {1, 3999}, {1, 3998}, {2}}, 3},
		{4000, [][]int{counted(4000), {0}}, 1},
	} {
		if b, e := search.Bound(cover.Matrix{Cols: c.cols, Rows: c.rows}); b != c.want || e != api.OK {
			t.Errorf("Bound of %d, %v: %d, %d", c.cols, c.rows, b, e)
		}
	}
}

// TestGreedyEdges is about P15.1: greedy columns that are told by hand.
func TestGreedyEdges(t *testing.T) {
	for _, c := range []struct {
		cols int
		rows [][]int
		want []int
		e    api.Errno
	}{
		{0, nil, nil, api.OK},
		{4000, nil, nil, api.OK},
		{0, [][]int{{}}, nil, api.ErrNone},
		{4, [][]int{{}}, nil, api.ErrNone},
		{4, [][]int{{0}, {1, 2}, nil}, nil, api.ErrNone},
		{4, [][]int{nil, {0}, {1, 2}}, nil, api.ErrNone},
		{1, [][]int{{0}}, []int{0}, api.OK},
		{3, [][]int{{2}, {2}}, []int{2}, api.OK},
		// Columns that are in as many rows: the smallest is taken.
		{3, [][]int{{0, 1, 2}}, []int{0}, api.OK},
		{4, [][]int{{1, 2}, {2, 3}, {1, 3}}, []int{1, 2}, api.OK},
		{4, [][]int{{3}, {2}, {0}}, []int{0, 2, 3}, api.OK},
		{4, [][]int{{0, 3}, {1, 3}, {2, 3}}, []int{3}, api.OK},
		{5, [][]int{{0, 4}, {1, 4}, {2, 4}, {0, 1}, {3}}, []int{0, 3, 4}, api.OK},
		// Rows that are there more than once count as often.
		{3, [][]int{{0, 1}, {0, 2}, {1}, {1}}, []int{0, 1}, api.OK},
		{3, [][]int{{0, 1}, {0, 2}, {0}, {1, 2}, {1, 2}, {1, 2}}, []int{0, 1}, api.OK},
		{3, [][]int{{0, 1}, {0, 2}, {1, 2}, {1, 2}}, []int{0, 1}, api.OK},
		{3, [][]int{{0, 2}, {1, 2}, {1, 2}, {0}}, []int{0, 2}, api.OK},
		// Too many: after 1, which is in the most rows, the others are all needed.
		{4, [][]int{{0, 1}, {1, 2}, {1, 3}, {0}, {2}, {3}, {1, 2}}, []int{0, 1, 2, 3}, api.OK},
		// After the first one others are in fewer rows than before.
		{6, [][]int{{0, 1}, {0, 2}, {0, 1}, {1, 2}, {0, 3}, {1, 4}, {4, 5}, {4, 5}}, []int{0, 1, 4}, api.OK},
		{4000, [][]int{{3998, 3999}, {17, 3999}}, []int{3999}, api.OK},
	} {
		l, e := search.Greedy(cover.Matrix{Cols: c.cols, Rows: c.rows})
		if !slices.Equal(l, c.want) || e != c.e {
			t.Errorf("Greedy of %d, %v: %v, %d", c.cols, c.rows, l, e)
		}
	}
}

// TestFewestEdges is about P15.2: numbers of columns that are told by hand, and which coverings need no steps.
func TestFewestEdges(t *testing.T) {
	for _, c := range []struct {
		cols int
		rows [][]int
		want int
		free bool // solved by what must be taken
	}{
		{0, nil, 0, true},
		{1, nil, 0, true},
		{4000, [][]int{}, 0, true},
		{1, [][]int{{0}}, 1, true},
		{4000, [][]int{{3999}}, 1, true},
		{3, [][]int{{0}, {1}, {2}}, 3, true},
		{6, [][]int{{0, 5}, {1, 4}, {2, 3}}, 3, true},
		{4, [][]int{{0, 3}, {1, 3}, {2, 3}, {0, 1, 2, 3}}, 1, true},
		{3, [][]int{{0, 1, 2}, {0, 1, 2}}, 1, true},
		{3, [][]int{{0}, {0, 1}, {1, 2}}, 2, true},
		{4, [][]int{{0, 1}, {1, 2}, {2, 3}}, 2, true},
		{4, [][]int{{0, 1}, {1, 2}, {1, 3}, {0}, {2}, {3}, {1, 2}}, 3, true},
		{3, [][]int{{0, 1}, {1, 2}, {0, 2}}, 2, false},
		{4, [][]int{{0, 1}, {1, 2}, {2, 3}, {0, 3}}, 2, false},
		{5, [][]int{{0, 1}, {1, 2}, {2, 3}, {3, 4}, {0, 4}}, 3, false},
		{5, [][]int{{0, 1}, {1, 2}, {0, 2}, {3}, {4}}, 4, false},
		{6, [][]int{{0, 2}, {2, 4}, {0, 4}, {1, 3}, {3, 5}, {1, 5}}, 4, false},
		{7, [][]int{{0, 1, 2}, {0, 3, 4}, {0, 5, 6}, {1, 3, 5}, {1, 4, 6}, {2, 3, 6}, {2, 4, 5}}, 3, false},
		{4000, [][]int{{0, 2000}, {2000, 3999}, {0, 3999}}, 2, false},
	} {
		x := of(cover.Matrix{Cols: c.cols, Rows: c.rows})
		n := x.hasFewest(t, c.want)
		if _, left, _ := reduce.Reduce(x.matrix()); c.free != (len(left.Rows) == 0) || c.free && n != 0 {
			t.Errorf("Fewest of %d, %v: %d steps", c.cols, c.rows, n)
		}
	}
	for _, rows := range [][][]int{{{}}, {nil, nil}, {{0}, {}}, {{}, {0}}, {{0, 1}, {1, 2}, {0, 2}, {}}} {
		of(cover.Matrix{Cols: 3, Rows: rows}).hasNone(t)
	}
	of(cover.Matrix{Rows: [][]int{{}}}).hasNone(t)
}

// triples are the lines of a plane or a space whose points are the columns: each two points are on exactly one of them.
func triples(n int, third func(a, b int) int) told {
	x := told{cols: n}
	for a := range n {
		for b := range a {
			if c := third(a, b); c < b {
				x.rows = append(x.rows, text(n, []int{a, b, c}))
			}
		}
	}
	return x
}

// TestKnown is about P15.2: coverings of which it is known how many columns they need, with bounds that are far below that.
func TestKnown(t *testing.T) {
	byThree := func(a, b int) int {
		c := 0
		for k := 1; k < 27; k *= 3 {
			c += k * ((6 - a/k%3 - b/k%3) % 3)
		}
		return c
	}
	byTwo := func(a, b int) int { return ((a + 1) ^ (b + 1)) - 1 }
	for _, c := range []struct {
		x    told
		want int
	}{
		{triples(7, byTwo), 3},
		{triples(9, byThree), 5},
		{triples(15, byTwo), 7},
		{triples(27, byThree), 18},
	} {
		if b, e := search.Bound(c.x.matrix()); e != api.OK || b >= c.want {
			t.Errorf("Bound(%v) = %d, %d", c.x, b, e)
		}
		if n := c.x.hasFewest(t, c.want); n == 0 {
			t.Errorf("Fewest(%v): no steps", c.x)
		}
	}
}

// TestShapes is about P15.2: rings and the like, up to as many columns as there may be.
func TestShapes(t *testing.T) {
	for _, n := range []int{3, 4, 5, 6, 7, 20, 21, 64, 65, 300, 3999, 4000} {
		for each := 2; each <= 3 && each < n; each++ {
			m := cover.Matrix{Cols: n}
			for k := range n {
				var row []int
				for j := range each {
					row = append(row, (k+j)%n)
				}
				slices.Sort(row)
				m.Rows = append(m.Rows, row)
			}
			l, done, e := search.Fewest(m, 100)
			if e != api.OK || len(l) != (n+each-1)/each || !cover.Solves(m, l) || done < 0 || done > 100 {
				t.Errorf("%d columns, %d in each row: %v, %d, %d", n, each, l, done, e)
			}
		}
	}
	for n := 3; n < 12; n++ {
		x := shaped(n)
		x[6].hasFewest(t, 2)
		x[12].hasFewest(t, n-1)
	}
}

// TestBeside is about P15.2: coverings that have no columns in common need as many columns together as one by one, and not many more steps.
func TestBeside(t *testing.T) {
	next := random(83)
	for k := range 120 {
		x := regular(4+k%7, 5+k%8, 2+k%2, next)
		y := regular(3+k%5, 3+k%9, 2+k%2, next)
		z := regular(5, 5+k%4, 2, next)
		beside(beside(x, y), z).hasFewest(t, x.least()+y.least()+z.least())
	}
	m := cover.Matrix{Cols: 3999}
	for k := range 1333 {
		m.Rows = append(m.Rows, []int{k, k + 1333}, []int{k + 1333, k + 2666}, []int{k, k + 2666})
	}
	l, n, e := search.Fewest(m, 30000)
	if e != api.OK || len(l) != 2666 || !cover.Solves(m, l) || !slices.IsSorted(l) {
		t.Errorf("1333 rings: %d columns, %d, %d", len(l), n, e)
	}
}

// TestMany is about P15.1 and P15.2: as many columns as there may be, and many rows.
func TestMany(t *testing.T) {
	var ones, pairs, star [][]int
	for k := range 4000 {
		ones = append(ones, []int{3999 - k})
		pairs = append(pairs, []int{k / 2 * 2, k/2*2 + 1})
		star = append(star, []int{min(k, 3998), 3999})
	}
	for k, c := range []struct {
		rows                  [][]int
		bound, greedy, fewest int
	}{
		{ones, 4000, 4000, 4000},
		{slices.Concat(ones, ones), 4000, 4000, 4000},
		{pairs, 2000, 2000, 2000},
		{star, 1, 1, 1},
		{slices.Repeat([][]int{{1, 2, 5}}, 90000), 1, 1, 1},
		{[][]int{counted(4000), counted(3999)}, 1, 1, 1},
	} {
		m := cover.Matrix{Cols: 4000, Rows: c.rows}
		b, e := search.Bound(m)
		if b != c.bound || e != api.OK {
			t.Errorf("Bound %d: %d, %d", k, b, e)
		}
		l, e := search.Greedy(m)
		if len(l) != c.greedy || e != api.OK || !cover.Solves(m, l) || !slices.IsSorted(l) {
			t.Errorf("Greedy %d: %v, %d", k, l, e)
		}
		l, n, e := search.Fewest(m, 0)
		if len(l) != c.fewest || n != 0 || e != api.OK || !cover.Solves(m, l) || !slices.IsSorted(l) {
			t.Errorf("Fewest %d: %v, %d, %d", k, l, n, e)
		}
	}
}

// TestSpecs is about P15.2: how many prime rows specs need, of which that is known.
func TestSpecs(t *testing.T) {
	none := func(int) bool { return false }
	even := func(p int) bool { return len(pick(p))%2 == 0 }
	for n := 1; n <= 8; n++ {
		for k, c := range []struct {
			on, free func(p int) bool
			want     int
		}{
			{none, none, 0},
			{func(p int) bool { return true }, none, 1},
			{func(p int) bool { return p > 0 }, none, n},
			{even, none, 1 << (n - 1)},
			{even, func(p int) bool { return !even(p) }, 1},
			{func(p int) bool { return p > 0 && p <= 1<<n-2 }, none, []int{0, n}[min(n-1, 1)]},
		} {
			x := asked(t, points(n, c.on, c.free))
			l, _, e := search.Fewest(x.matrix(), 1000)
			if e != api.OK || len(l) != c.want {
				t.Errorf("spec %d of %d inputs, %v: %v, %d, not %d", k, n, x, l, e, c.want)
			}
		}
	}
}

// TestBetween is about P15.3: no columns that solve a covering are fewer than its bound, and greedy ones solve it.
func TestBetween(t *testing.T) {
	check := func(x told) {
		if x.bare() {
			return
		}
		m := x.matrix()
		b, e := search.Bound(m)
		if e != api.OK {
			t.Fatalf("Bound(%v): %d", x, e)
		}
		g, e := search.Greedy(m)
		if e != api.OK {
			t.Fatalf("Greedy(%v): %d", x, e)
		}
		l, _, e := search.Fewest(m, api.MaxSteps)
		if e != api.OK || len(l) < b || len(g) < len(l) {
			t.Fatalf("Fewest(%v) = %v, %d: the bound is %d, and %v are greedy", x, l, e, b, g)
		}
		x.isList(t, g)
		x.isList(t, l)
		if x.cols <= 8 && x.least() < b {
			t.Fatalf("Bound(%v) = %d", x, b)
		}
	}
	all(t, check)
	next := random(89)
	for n := 4; n <= 6; n++ {
		for m := 1; m <= 3; m++ {
			check(asked(t, some(n, m, next)))
		}
	}
}

// TestWrong is about P15.1 and P15.2: all lists of up to three numbers that are no row, alone and among rows, also such without columns.
func TestWrong(t *testing.T) {
	var lists [][]int
	numbers := []int{-1, 0, 1, 2, 3}
	for _, a := range numbers {
		lists = append(lists, []int{a})
		for _, b := range numbers {
			lists = append(lists, []int{a, b})
			for _, c := range numbers {
				lists = append(lists, []int{a, b, c})
			}
		}
	}
	for _, k := range odd {
		lists = append(lists, []int{k}, []int{0, k}, []int{k, 0})
	}
	for cols := range 4 {
		some := [][]int{counted(cols), {}, counted(cols)}
		for _, l := range lists {
			if cover.Right(cover.Matrix{Cols: cols, Rows: [][]int{l}}) {
				continue
			}
			for _, rows := range [][][]int{{l}, {l, l}, append([][]int{l}, some...), append(slices.Clone(some), l), slices.Concat(some, [][]int{l}, some)} {
				refused(t, cover.Matrix{Cols: cols, Rows: rows})
			}
		}
	}
	for _, cols := range odd {
		for _, rows := range [][][]int{nil, {}, {{}}, {{0}}, {{0}, {}}, {{0, 1}, {1, 2}, {0, 2}}, {{1, 0}}, {{-1}}} {
			refused(t, cover.Matrix{Cols: cols, Rows: rows})
		}
	}
}

// TestExample is the chapter's.
func TestExample(t *testing.T) {
	m := cover.Matrix{Cols: 3, Rows: [][]int{{0, 1}, {1, 2}, {0, 2}}}
	l, n, e := search.Fewest(m, 100)
	if len(l) != 2 || l[0] >= l[1] || n > 16 || e != api.OK {
		t.Errorf("Fewest(%v) = %v, %d, %d", m, l, n, e)
	}
	if b, e := search.Bound(m); b != 1 || e != api.OK {
		t.Errorf("Bound(%v) = %d, %d", m, b, e)
	}
	if l, e := search.Greedy(m); !slices.Equal(l, []int{0, 1}) || e != api.OK {
		t.Errorf("Greedy(%v) = %v, %d", m, l, e)
	}
}

// calls makes the three calls, and returns the lists and the numbers that they return.
func calls(m cover.Matrix, steps int) ([][]int, []int) {
	b, e := search.Bound(m)
	g, f := search.Greedy(m)
	l, n, h := search.Fewest(m, steps)
	return [][]int{g, l}, []int{b, n, int(e), int(f), int(h)}
}

// same tells whether calls returned the same.
func same(a, b [][]int, c, d []int) bool {
	return slices.EqualFunc(a, b, slices.Equal) && slices.Equal(c, d)
}

// TestMemory is about P0 (R3): arguments stay as they are, behind their ends too, and what a call returned is nobody else's, spare capacity included.
func TestMemory(t *testing.T) {
	next := random(97)
	for k := range 400 {
		m := regular(3+k%8, 1+k%12, 1+k%3, next).matrix()
		// One row twice in the same memory, and room behind all of them.
		m.Rows = append(m.Rows, m.Rows[0])
		for j, row := range m.Rows[:len(m.Rows)-1] {
			m.Rows[j] = append(row, 88, 99)[:len(row)]
		}
		m.Rows = append(m.Rows, []int{1, 2, 3}, nil)[:len(m.Rows)]
		var before [][]int
		for _, row := range m.Rows[:len(m.Rows)+2] {
			before = append(before, slices.Clone(row[:cap(row)]))
		}
		lists, numbers := calls(m, k)
		again, others := calls(m, k)
		for _, l := range lists {
			l = l[:cap(l)]
			for j := range l {
				l[j] = -1
			}
		}
		third, last := calls(m, k)
		if !same(again, third, others, last) || !slices.Equal(numbers, last) {
			t.Fatalf("%v: %v, %v, then %v, %v", m, again, others, third, last)
		}
		for j, row := range m.Rows[:len(m.Rows)+2] {
			if !slices.Equal(row[:cap(row)], before[j]) {
				t.Fatalf("row %d has become %v, and was %v", j, row[:cap(row)], before[j])
			}
		}
	}
}

// TestSame is about P0 (R1, R4): any arguments, always with the same results.
func TestSame(t *testing.T) {
	next := random(101)
	for k := range 20000 {
		m := cover.Matrix{Cols: next(8) - 1}
		for range next(5) {
			var l []int
			for range next(4) {
				l = append(l, next(9)-1+k%2*len(l))
			}
			m.Rows = append(m.Rows, l)
		}
		steps := next(12) - 2
		lists, numbers := calls(m, steps)
		for range 2 {
			if again, others := calls(m, steps); !same(lists, again, numbers, others) {
				t.Fatalf("%v: %v, %v, then %v, %v", m, lists, numbers, again, others)
			}
		}
		if !cover.Right(m) {
			refused(t, m)
		}
	}
	for k := range 60 {
		m := regular(20+k%20, 40, 3, next).matrix()
		lists, numbers := calls(m, 1+k*4)
		if again, others := calls(m, 1+k*4); !same(lists, again, numbers, others) {
			t.Fatalf("%v: %v, %v, then %v, %v", of(m), lists, numbers, again, others)
		}
	}
	if _, n, e := search.Fewest(cover.Matrix{}, math.MinInt); n != 0 || e != api.OK {
		t.Errorf("Fewest of nothing: %d, %d", n, e)
	}
}
