package search_test

import (
	"fmt"
	"math"
	"math/bits"
	"slices"
	"strings"
	"testing"

	"drawknife/api"
	"drawknife/cover"
	"drawknife/multi"
	"drawknife/reduce"
	"drawknife/search"
)

// odd are numbers that are no numbers of columns, and no columns.
var odd = []int{-1, -2, -8, -64, -4000, 4001, 4096, 65535, 65536, 65537, math.MaxInt32, math.MinInt32, math.MaxInt, math.MaxInt - 1, math.MinInt, math.MinInt + 1}

// A told is a covering that is told by texts, one for each row: there is a 1 at each column that the row has, and a 0 at the others.
type told struct {
	cols int
	rows []string
}

// text tells a row.
func text(cols int, row []int) string {
	s := []byte(strings.Repeat("0", cols))
	for _, c := range row {
		s[c] = '1'
	}
	return string(s)
}

// of tells a covering.
func of(m cover.Matrix) told {
	x := told{cols: m.Cols}
	for _, row := range m.Rows {
		x.rows = append(x.rows, text(m.Cols, row))
	}
	return x
}

// matrix makes the covering.
func (x told) matrix() cover.Matrix {
	m := cover.Matrix{Cols: x.cols}
	for _, s := range x.rows {
		var row []int
		for c := range s {
			if s[c] == '1' {
				row = append(row, c)
			}
		}
		m.Rows = append(m.Rows, row)
	}
	return m
}

// String is what is told in failures.
func (x told) String() string {
	return fmt.Sprintf("%d: %s", x.cols, strings.Join(x.rows, " "))
}

// meet tells whether two texts have a 1 at the same place.
func meet(s, other string) bool {
	for k := range s {
		if s[k] == '1' && other[k] == '1' {
			return true
		}
	}
	return false
}

// bare tells whether a row has no column.
func (x told) bare() bool {
	return slices.Contains(x.rows, strings.Repeat("0", x.cols))
}

// bound is the number of rows that are selected.
func (x told) bound() int {
	var selected []string
	for _, s := range x.rows {
		if !slices.ContainsFunc(selected, func(other string) bool { return meet(s, other) }) {
			selected = append(selected, s)
		}
	}
	return len(selected)
}

// greedy are the greedy columns of a covering without a bare row.
func (x told) greedy() []int {
	var taken []int
	for len(x.rows) > 0 {
		best, most := 0, 0
		for c := range x.cols {
			if many := strings.Count(x.column(c), "1"); many > most {
				best, most = c, many
			}
		}
		taken = append(taken, best)
		left := told{cols: x.cols}
		for _, s := range x.rows {
			if s[best] == '0' {
				left.rows = append(left.rows, s)
			}
		}
		x = left
	}
	slices.Sort(taken)
	return taken
}

// column is the text of a column, with a 1 at each row that has it.
func (x told) column(c int) string {
	s := ""
	for _, row := range x.rows {
		s += row[c : c+1]
	}
	return s
}

// solved tells whether columns solve a covering.
func (x told) solved(l []int) bool {
	s := text(x.cols, l)
	return !slices.ContainsFunc(x.rows, func(row string) bool { return !meet(s, row) })
}

// masks are the rows, as numbers with a bit for each column, of which there are at most 64.
func (x told) masks() []uint64 {
	var l []uint64
	for _, row := range x.matrix().Rows {
		mask := uint64(0)
		for _, c := range row {
			mask |= 1 << c
		}
		l = append(l, mask)
	}
	return l
}

// most is the greatest number of columns of which least tries all choices.
const most = 13

// least is the smallest number of columns that solve a covering without a bare row: all choices of columns are tried if there are few, and else more and more columns, each one of the shortest row that is left.
func (x told) least() int {
	rows := x.masks()
	if x.cols > most {
		many := 0
		for !within(rows, many) {
			many++
		}
		return many
	}
	best := x.cols
	for some := range uint64(1) << x.cols {
		if n := bits.OnesCount64(some); n < best && !slices.ContainsFunc(rows, func(row uint64) bool { return row&some == 0 }) {
			best = n
		}
	}
	return best
}

// within tells whether so many columns can solve rows: no fewer can than there are rows that have none in common.
func within(rows []uint64, many int) bool {
	seen, apart := uint64(0), 0
	short := ^uint64(0)
	for _, row := range rows {
		if row&seen == 0 {
			seen |= row
			apart++
		}
		if bits.OnesCount64(row) < bits.OnesCount64(short) {
			short = row
		}
	}
	if len(rows) == 0 || apart > many {
		return len(rows) == 0
	}
	for ; short > 0; short &= short - 1 {
		c := short & -short
		var left []uint64
		for _, row := range rows {
			if row&c == 0 {
				left = append(left, row)
			}
		}
		if within(left, many-1) {
			return true
		}
	}
	return false
}

// hasBound checks what Bound returns.
func (x told) hasBound(t testing.TB) {
	t.Helper()
	if b, e := search.Bound(x.matrix()); b != x.bound() || e != api.OK {
		t.Fatalf("Bound(%v) = %d, %d, not %d", x, b, e, x.bound())
	}
}

// hasGreedy checks what Greedy returns.
func (x told) hasGreedy(t testing.TB) {
	t.Helper()
	l, e := search.Greedy(x.matrix())
	if x.bare() {
		if len(l) != 0 || e != api.ErrNone {
			t.Fatalf("Greedy(%v) = %v, %d", x, l, e)
		}
		return
	}
	if want := x.greedy(); !slices.Equal(l, want) || e != api.OK {
		t.Fatalf("Greedy(%v) = %v, %d, not %v", x, l, e, want)
	}
}

// hasFewest checks what Fewest returns, for all numbers of steps: want columns are the fewest. It returns how many steps are needed.
func (x told) hasFewest(t testing.TB, want int) int {
	t.Helper()
	m := x.matrix()
	_, n, _ := search.Fewest(m, api.MaxSteps)
	for _, steps := range []int{api.MaxSteps, math.MaxInt, n + 1, n} {
		l, done, e := search.Fewest(m, steps)
		if e != api.OK || len(l) != want || done != n {
			t.Fatalf("Fewest(%v, %d) = %v, %d, %d, not %d columns and %d steps", x, steps, l, done, e, want, n)
		}
		x.isList(t, l)
	}
	for _, steps := range []int{n - 1, n / 2, 1, 0, -1, math.MinInt} {
		if steps >= n || n == 0 {
			continue
		}
		if l, done, e := search.Fewest(m, steps); e != api.ErrStep || len(l) != 0 || done != max(steps, 0) {
			t.Fatalf("Fewest(%v, %d) = %v, %d, %d, and %d steps are needed", x, steps, l, done, e, n)
		}
	}
	if n == 0 {
		if l, done, e := search.Fewest(m, -1); e != api.OK || len(l) != want || done != 0 {
			t.Fatalf("Fewest(%v, -1) = %v, %d, %d", x, l, done, e)
		}
	}
	_, left, _ := reduce.Reduce(m)
	if n < 0 || len(left.Rows) == 0 && n > 0 || x.cols <= 12 && n > 2<<x.cols {
		t.Fatalf("Fewest(%v) does %d steps", x, n)
	}
	return n
}

// isList checks that numbers are columns, in increasing order, that solve a covering.
func (x told) isList(t testing.TB, l []int) {
	t.Helper()
	least := 0
	for _, c := range l {
		if c < least || c >= x.cols {
			t.Fatalf("%v are no columns of %v in increasing order", l, x)
		}
		least = c + 1
	}
	if !x.solved(l) || !cover.Solves(x.matrix(), l) {
		t.Fatalf("%v do not solve %v", l, x)
	}
}

// hasNone checks what Fewest returns for a covering with a bare row.
func (x told) hasNone(t testing.TB) {
	t.Helper()
	for _, steps := range []int{math.MinInt, -1, 0, 1, 100, api.MaxSteps, math.MaxInt} {
		if l, n, e := search.Fewest(x.matrix(), steps); len(l) != 0 || n != 0 || e != api.ErrNone {
			t.Fatalf("Fewest(%v, %d) = %v, %d, %d", x, steps, l, n, e)
		}
	}
}

// refused checks what the three calls return for a covering that is not valid.
func refused(t testing.TB, m cover.Matrix) {
	t.Helper()
	if b, e := search.Bound(m); b != 0 || e != api.ErrArg {
		t.Fatalf("Bound(%v) = %d, %d", m, b, e)
	}
	if l, e := search.Greedy(m); len(l) != 0 || e != api.ErrArg {
		t.Fatalf("Greedy(%v) = %v, %d", m, l, e)
	}
	for _, steps := range []int{math.MinInt, -1, 0, 1, api.MaxSteps, math.MaxInt} {
		if l, n, e := search.Fewest(m, steps); len(l) != 0 || n != 0 || e != api.ErrArg {
			t.Fatalf("Fewest(%v, %d) = %v, %d, %d", m, steps, l, n, e)
		}
	}
}

// random returns a function whose next number is below n.
func random(seed uint64) func(n int) int {
	return func(n int) int {
		seed = seed*6364136223846793005 + 1442695040888963407
		return int(seed>>33) % n
	}
}

// pick are the numbers whose bits are in a number.
func pick(bits int) []int {
	var l []int
	for k := 0; bits>>k > 0; k++ {
		if bits>>k%2 == 1 {
			l = append(l, k)
		}
	}
	return l
}

// counted are the numbers from 0 on.
func counted(many int) []int {
	var l []int
	for k := range many {
		l = append(l, k)
	}
	return l
}

// small calls what is tested with all coverings of so many columns and up to so many rows.
func small(cols, most int, test func(x told)) {
	var texts []string
	for bits := range 1 << cols {
		texts = append(texts, text(cols, pick(bits)))
	}
	var longer func(rows []string)
	longer = func(rows []string) {
		test(told{cols, rows})
		if len(rows) == most {
			return
		}
		for _, s := range texts {
			longer(append(slices.Clone(rows), s))
		}
	}
	longer(nil)
}

// mixed is a covering at random: each row has each column in so many of ten cases, and some rows are made of others by a column more or less.
func mixed(cols, rows, tenths int, next func(n int) int) told {
	x := told{cols: cols}
	for range rows {
		s := []byte(strings.Repeat("0", cols))
		for c := range s {
			if next(10) < tenths {
				s[c] = '1'
			}
		}
		if len(x.rows) > 0 && next(4) == 0 {
			s = []byte(x.rows[next(len(x.rows))])
			if cols > 0 {
				s[next(cols)] = "01"[next(2)]
			}
		}
		x.rows = append(x.rows, string(s))
	}
	return x
}

// regular is a covering at random of rows that all have so many columns.
func regular(cols, rows, each int, next func(n int) int) told {
	x := told{cols: cols}
	for range rows {
		s := strings.Repeat("0", cols)
		for strings.Count(s, "1") < each {
			c := next(cols)
			s = s[:c] + "1" + s[c+1:]
		}
		x.rows = append(x.rows, s)
	}
	return x
}

// shaped are coverings of a shape: rings, chains, steps, all but one, pairs, each with so many columns.
func shaped(n int) []told {
	shapes := [][][]int{nil, nil, nil, nil, nil, nil, nil}
	for k := range n {
		shapes[0] = append(shapes[0], []int{k, (k + 1) % n})
		shapes[1] = append(shapes[1], []int{k, min(k+1, n-1)})
		shapes[2] = append(shapes[2], counted(k+1))
		shapes[3] = append(shapes[3], slices.Delete(counted(n), k, k+1))
		shapes[4] = append(shapes[4], []int{k, (k + 1) % n, (k + 3) % n})
		shapes[5] = append(shapes[5], []int{k, k * 5 % n, k * k % n})
		for j := range k {
			shapes[6] = append(shapes[6], []int{j, k})
		}
	}
	var l []told
	for _, rows := range shapes {
		x := told{cols: n}
		for _, row := range rows {
			x.rows = append(x.rows, text(n, row))
		}
		turned := told{n, slices.Clone(x.rows)}
		slices.Reverse(turned.rows)
		l = append(l, x, turned)
	}
	return l
}

// beside is a covering of two that have no columns in common: the columns and rows of the second one are among those of the first one.
func beside(x, y told) told {
	both := told{cols: x.cols + y.cols}
	least := min(x.cols, y.cols)
	mix := func(s, other string) string {
		text := ""
		for k := range least {
			text += s[k:k+1] + other[k:k+1]
		}
		return text + s[least:] + other[least:]
	}
	for k := range max(len(x.rows), len(y.rows)) {
		if k < len(x.rows) {
			both.rows = append(both.rows, mix(x.rows[k], strings.Repeat("0", y.cols)))
		}
		if k < len(y.rows) {
			both.rows = append(both.rows, mix(strings.Repeat("0", x.cols), y.rows[k]))
		}
	}
	return both
}

// points is a spec of one output, which must be on at some points and may be on at those and some others.
func points(n int, on, free func(p int) bool) api.Spec {
	s := api.Spec{In: n, On: make([]api.Set, 1), May: make([]api.Set, 1)}
	for p := range 1 << n {
		bit := uint64(1) << (p % 64)
		if on(p) {
			s.On[0][p/64] |= bit
			s.May[0][p/64] |= bit
		} else if free(p) {
			s.May[0][p/64] |= bit
		}
	}
	return s
}

// asked is the covering of a spec and its prime rows.
func asked(t testing.TB, s api.Spec) told {
	t.Helper()
	l, e := multi.All(s)
	if e != api.OK {
		t.Fatalf("All(%v): %d", s, e)
	}
	matrix, e := cover.Make(s, l)
	if e != api.OK {
		t.Fatalf("Make(%v): %d", s, e)
	}
	return of(matrix)
}

// some is a spec at random.
func some(n, m int, next func(n int) int) api.Spec {
	s := api.Spec{In: n}
	for range m {
		one := points(n, func(int) bool { return next(8) < 5 }, func(int) bool { return next(3) == 0 })
		s.On, s.May = append(s.On, one.On[0]), append(s.May, one.May[0])
	}
	return s
}

// all calls what is tested with all small ones, and with mixed ones, those of a shape and those of specs.
func all(t testing.TB, test func(x told)) {
	t.Helper()
	small(0, 4, test)
	small(1, 6, test)
	small(2, 5, test)
	small(3, 5, test)
	small(4, 4, test)
	small(5, 2, test)
	next := random(71)
	for _, cols := range []int{1, 2, 3, 4, 5, 6, 7, 8, 10, 14} {
		for _, rows := range []int{1, 3, 4, 5, 6, 8, 12, 20} {
			for tenths := 1; tenths < 10; tenths++ {
				for range 1 + 40/(cols+rows) {
					test(mixed(cols, rows, tenths, next))
				}
			}
		}
	}
	for n := 1; n < 14; n++ {
		for _, x := range shaped(n) {
			test(x)
		}
	}
	for n := range 4 {
		for m := 1; m <= 2; m++ {
			for range 6 {
				test(asked(t, some(n, m, next)))
			}
		}
	}
}
