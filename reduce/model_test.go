package reduce_test

import (
	"fmt"
	"math"
	"slices"
	"strings"
	"testing"

	"drawknife/api"
	"drawknife/cover"
	"drawknife/multi"
	"drawknife/reduce"
)

// odd are numbers that are no numbers of columns, and no columns.
var odd = []int{-1, -2, -8, -64, -4000, 4001, 4096, 65535, 65536, 65537, math.MaxInt32, math.MinInt32, math.MaxInt, math.MaxInt - 1, math.MinInt, math.MinInt + 1}

// A told is a covering that is told by texts, one for each row: there is a 1 at each column that the row has, and a 0 at the others.
type told struct {
	cols int
	rows []string
}

// text tells a row.
func text(cols int, row []int) string {
	s := []byte(strings.Repeat("0", cols))
	for _, c := range row {
		s[c] = '1'
	}
	return string(s)
}

// of tells a covering.
func of(m cover.Matrix) told {
	x := told{cols: m.Cols}
	for _, row := range m.Rows {
		x.rows = append(x.rows, text(m.Cols, row))
	}
	return x
}

// matrix makes the covering.
func (x told) matrix() cover.Matrix {
	m := cover.Matrix{Cols: x.cols}
	for _, s := range x.rows {
		var row []int
		for c := range s {
			if s[c] == '1' {
				row = append(row, c)
			}
		}
		m.Rows = append(m.Rows, row)
	}
	return m
}

// column is the text of a column, with a 1 at each row that has it.
func (x told) column(c int) string {
	s := ""
	for _, row := range x.rows {
		s += row[c : c+1]
	}
	return s
}

// ones is the number of those in a text.
func ones(s string) int {
	return strings.Count(s, "1")
}

// holds tells whether a text has a 1 wherever the other one does.
func holds(s, other string) bool {
	for k := range other {
		if other[k] == '1' && s[k] == '0' {
			return false
		}
	}
	return true
}

// take is what is left after the column that must be taken, and the column: below 0 if there is none.
func (x told) take() (told, int) {
	for _, row := range x.rows {
		if ones(row) != 1 {
			continue
		}
		c := strings.Index(row, "1")
		left := told{cols: x.cols}
		for _, s := range x.rows {
			if s[c] == '0' {
				left.rows = append(left.rows, s)
			}
		}
		return left, c
	}
	return x, -1
}

// lessRows is what is left without a row that need not be, and the row: below 0 if there is none.
func (x told) lessRows() (told, int) {
	for k, s := range x.rows {
		for j, other := range x.rows {
			more := holds(s, other) && ones(s) > ones(other)
			same := s == other && j < k
			if more || same {
				return told{x.cols, slices.Delete(slices.Clone(x.rows), k, k+1)}, k
			}
		}
	}
	return x, -1
}

// lessColumns is what is left without a column that need not be, and the column: below 0 if there is none.
func (x told) lessColumns() (told, int) {
	var all []string
	for c := range x.cols {
		all = append(all, x.column(c))
	}
	for c, s := range all {
		for d, other := range all {
			if d == c || ones(s) == 0 || !holds(other, s) || d > c && ones(other) <= ones(s) {
				continue
			}
			left := told{cols: x.cols}
			for _, row := range x.rows {
				left.rows = append(left.rows, row[:c]+"0"+row[c+1:])
			}
			return left, c
		}
	}
	return x, -1
}

// reduced are the columns that are taken, in increasing order, and what is left at the end.
func (x told) reduced() ([]int, told) {
	var taken []int
	for {
		left, c := x.take()
		if c >= 0 {
			taken = append(taken, c)
		} else if left, c = x.lessRows(); c < 0 {
			left, c = x.lessColumns()
		}
		if c < 0 {
			slices.Sort(taken)
			return taken, x
		}
		x = left
	}
}

// equal tells whether two coverings are the same, also if they are not valid.
func equal(m, o cover.Matrix) bool {
	return m.Cols == o.Cols && slices.EqualFunc(m.Rows, o.Rows, slices.Equal)
}

// hasTake checks what Take returns.
func (x told) hasTake(t testing.TB) {
	t.Helper()
	want, c := x.take()
	m, got, ok := reduce.Take(x.matrix())
	if !equal(m, want.matrix()) || got != max(c, 0) || ok != (c >= 0) {
		t.Fatalf("Take(%v) = %v, %d, %v, not %v, %d", x, m, got, ok, want, c)
	}
}

// hasRows checks what Rows returns.
func (x told) hasRows(t testing.TB) {
	t.Helper()
	want, k := x.lessRows()
	if m, ok := reduce.Rows(x.matrix()); !equal(m, want.matrix()) || ok != (k >= 0) {
		t.Fatalf("Rows(%v) = %v, %v, not %v, row %d", x, m, ok, want, k)
	}
}

// hasColumns checks what Columns returns.
func (x told) hasColumns(t testing.TB) {
	t.Helper()
	want, c := x.lessColumns()
	if m, ok := reduce.Columns(x.matrix()); !equal(m, want.matrix()) || ok != (c >= 0) {
		t.Fatalf("Columns(%v) = %v, %v, not %v, column %d", x, m, ok, want, c)
	}
}

// hasReduce checks what Reduce returns.
func (x told) hasReduce(t testing.TB) {
	t.Helper()
	taken, want := x.reduced()
	got, m, e := reduce.Reduce(x.matrix())
	if e != api.OK || !slices.Equal(got, taken) || !equal(m, want.matrix()) {
		t.Fatalf("Reduce(%v) = %v, %v, %d, not %v, %v", x, got, m, e, taken, want)
	}
}

// refused checks that none of the four calls does anything with a covering that is not valid.
func refused(t testing.TB, m cover.Matrix) {
	t.Helper()
	if left, c, ok := reduce.Take(m); !equal(left, m) || c != 0 || ok {
		t.Fatalf("Take(%v) = %v, %d, %v", m, left, c, ok)
	}
	if left, ok := reduce.Rows(m); !equal(left, m) || ok {
		t.Fatalf("Rows(%v) = %v, %v", m, left, ok)
	}
	if left, ok := reduce.Columns(m); !equal(left, m) || ok {
		t.Fatalf("Columns(%v) = %v, %v", m, left, ok)
	}
	if taken, left, e := reduce.Reduce(m); len(taken) != 0 || left.Cols != 0 || len(left.Rows) != 0 || e != api.ErrArg {
		t.Fatalf("Reduce(%v) = %v, %v, %d", m, taken, left, e)
	}
}

// random returns a function whose next number is below n.
func random(seed uint64) func(n int) int {
	return func(n int) int {
		seed = seed*6364136223846793005 + 1442695040888963407
		return int(seed>>33) % n
	}
}

// pick are the numbers whose bits are in a number.
func pick(bits int) []int {
	var l []int
	for k := 0; bits>>k > 0; k++ {
		if bits>>k%2 == 1 {
			l = append(l, k)
		}
	}
	return l
}

// counted are the numbers from 0 on.
func counted(many int) []int {
	var l []int
	for k := range many {
		l = append(l, k)
	}
	return l
}

// small calls what is tested with all coverings of so many columns and up to so many rows.
func small(cols, most int, test func(x told)) {
	var texts []string
	for bits := range 1 << cols {
		texts = append(texts, text(cols, pick(bits)))
	}
	var longer func(rows []string)
	longer = func(rows []string) {
		test(told{cols, rows})
		if len(rows) == most {
			return
		}
		for _, s := range texts {
			longer(append(slices.Clone(rows), s))
		}
	}
	longer(nil)
}

// mixed is a covering at random: each row has each column in so many of ten cases, and some rows are made of others by a column more or less.
func mixed(cols, rows, tenths int, next func(n int) int) told {
	x := told{cols: cols}
	for range rows {
		s := []byte(strings.Repeat("0", cols))
		for c := range s {
			if next(10) < tenths {
				s[c] = '1'
			}
		}
		if len(x.rows) > 0 && next(4) == 0 {
			s = []byte(x.rows[next(len(x.rows))])
			if cols > 0 {
				s[next(cols)] = "01"[next(2)]
			}
		}
		x.rows = append(x.rows, string(s))
	}
	return x
}

// shaped are coverings of a shape: rings, chains, steps, all but one, pairs, each with so many columns.
func shaped(n int) []told {
	shapes := [][][]int{nil, nil, nil, nil, nil, nil, nil}
	for k := range n {
		shapes[0] = append(shapes[0], []int{k, (k + 1) % n})
		shapes[1] = append(shapes[1], []int{k, min(k+1, n-1)})
		shapes[2] = append(shapes[2], counted(k+1))
		shapes[3] = append(shapes[3], slices.Delete(counted(n), k, k+1))
		shapes[4] = append(shapes[4], []int{k, (k + 1) % n, (k + 3) % n})
		shapes[5] = append(shapes[5], []int{k, k * 5 % n, k * k % n})
		for j := range k {
			shapes[6] = append(shapes[6], []int{j, k})
		}
	}
	var l []told
	for _, rows := range shapes {
		x := told{cols: n}
		for _, row := range rows {
			x.rows = append(x.rows, text(n, row))
		}
		turned := told{n, slices.Clone(x.rows)}
		slices.Reverse(turned.rows)
		l = append(l, x, turned)
	}
	return l
}

// asked is the covering of a spec at random and its prime rows.
func asked(t testing.TB, n, m int, next func(n int) int) told {
	t.Helper()
	s := api.Spec{In: n, On: make([]api.Set, m), May: make([]api.Set, m)}
	for o := range m {
		for p := range 1 << n {
			bit := uint64(1) << (p % 64)
			switch next(4) {
			case 0, 1:
				s.On[o][p/64] |= bit
				s.May[o][p/64] |= bit
			case 2:
				s.May[o][p/64] |= bit
			}
		}
	}
	l, e := multi.All(s)
	if e != api.OK {
		t.Fatalf("All(%v): %d", s, e)
	}
	matrix, e := cover.Make(s, l)
	if e != api.OK {
		t.Fatalf("Make(%v): %d", s, e)
	}
	return of(matrix)
}

// all calls what is tested with all small ones, and with mixed ones, those of a shape and those of specs.
func all(t testing.TB, test func(x told)) {
	t.Helper()
	small(0, 4, test)
	small(1, 6, test)
	small(2, 5, test)
	small(3, 5, test)
	small(4, 4, test)
	small(5, 3, test)
	next := random(41)
	for _, cols := range []int{1, 2, 3, 4, 5, 6, 7, 8, 12, 20, 30} {
		for _, rows := range []int{1, 3, 4, 5, 6, 8, 12, 20, 30} {
			for tenths := 1; tenths < 10; tenths++ {
				for range 1 + 60/(cols+rows) {
					test(mixed(cols, rows, tenths, next))
				}
			}
		}
	}
	for n := 1; n < 14; n++ {
		for _, x := range shaped(n) {
			test(x)
		}
	}
	for n := range 5 {
		for m := 1; m <= 3; m++ {
			for range 6 {
				test(asked(t, n, m, next))
			}
		}
	}
}

// String is what is told in failures.
func (x told) String() string {
	return fmt.Sprintf("%d: %s", x.cols, strings.Join(x.rows, " "))
}
