package cover_test

import (
	"math"
	"slices"
	"testing"

	"drawknife/api"
	"drawknife/cover"
	"drawknife/cube"
	"drawknife/isop"
	"drawknife/multi"
	"drawknife/spec"
)

// rising tells by the columns, from 0 on, whether a list is one of some of them: those that are in it, in this order, are the list.
func rising(l []int, cols int) bool {
	var some []int
	for c := range cols {
		if slices.Contains(l, c) {
			some = append(some, c)
		}
	}
	return slices.Equal(l, some)
}

// lists are all lists of up to so many of these numbers.
func lists(numbers []int, most int) [][]int {
	l := [][]int{nil}
	for first := 0; len(l[len(l)-1]) < most; {
		end := len(l)
		for _, x := range l[first:end] {
			for _, k := range numbers {
				l = append(l, append(slices.Clone(x), k))
			}
		}
		first = end
	}
	return l
}

// counted are the numbers from 0 on.
func counted(many int) []int {
	var l []int
	for k := range many {
		l = append(l, k)
	}
	return l
}

// hasRight checks what Right reports, and that a covering that is not valid is not solved.
func hasRight(t *testing.T, m cover.Matrix, want bool) {
	t.Helper()
	if cover.Right(m) != want {
		t.Fatalf("Right(%v) = %v", m, !want)
	}
	if !want && (cover.Solves(m, nil) || cover.Solves(m, counted(4100))) {
		t.Fatalf("Solves(%v)", m)
	}
}

// TestRight is about P13.1: all lists of up to three numbers around those of up to four columns, alone and among others.
func TestRight(t *testing.T) {
	for cols := range 5 {
		for _, l := range lists([]int{-1, 0, 1, 2, 3, 4, 5}, 3) {
			want := rising(l, cols)
			all := counted(cols)
			for _, rows := range [][][]int{{l}, {l, all}, {all, l}, {nil, all, l}, {l, l, all}, {all, l, nil}} {
				hasRight(t, cover.Matrix{Cols: cols, Rows: rows}, want)
			}
		}
	}
}

// TestRightPairs is about P13.1: all coverings of two rows of up to two numbers.
func TestRightPairs(t *testing.T) {
	for cols := -1; cols < 4; cols++ {
		all := lists([]int{-1, 0, 1, 2, 3}, 2)
		for _, a := range all {
			for _, b := range all {
				hasRight(t, cover.Matrix{Cols: cols, Rows: [][]int{a, b}}, cols >= 0 && rising(a, cols) && rising(b, cols))
			}
		}
	}
}

// TestRightCols is about P13.1: numbers of columns at the edges, and rows with the last columns.
func TestRightCols(t *testing.T) {
	for _, cols := range []int{0, 1, 2, 255, 256, 257, 3999, 4000} {
		all := counted(cols)
		hasRight(t, cover.Matrix{Cols: cols}, true)
		hasRight(t, cover.Matrix{Cols: cols, Rows: [][]int{{}, all, nil, all}}, true)
		hasRight(t, cover.Matrix{Cols: cols, Rows: [][]int{append(all, cols)}}, false)
		hasRight(t, cover.Matrix{Cols: cols, Rows: [][]int{all, {cols}}}, false)
		hasRight(t, cover.Matrix{Cols: cols, Rows: slices.Repeat([][]int{all}, 20)}, true)
		hasRight(t, cover.Matrix{Cols: cols, Rows: slices.Repeat([][]int{{}}, 5000)}, true)
		if cols > 1 {
			turned := slices.Clone(all)
			turned[cols-2], turned[cols-1] = cols-1, cols-2
			hasRight(t, cover.Matrix{Cols: cols, Rows: [][]int{all, turned}}, false)
			hasRight(t, cover.Matrix{Cols: cols, Rows: [][]int{append(all, cols-1)}}, false)
			hasRight(t, cover.Matrix{Cols: cols, Rows: [][]int{append([]int{0}, all...)}}, false)
			hasRight(t, cover.Matrix{Cols: cols, Rows: [][]int{{0, cols - 1}, {cols - 1}, {cols - 2, cols - 1}}}, true)
		}
		for _, k := range odd {
			for _, l := range [][]int{{k}, {0, k}, {k, 0}, {k, math.MaxInt}, {math.MinInt, k}} {
				hasRight(t, cover.Matrix{Cols: cols, Rows: [][]int{all, l}}, false)
			}
		}
	}
	for _, cols := range odd {
		hasRight(t, cover.Matrix{Cols: cols}, false)
		hasRight(t, cover.Matrix{Cols: cols, Rows: [][]int{{}}}, false)
		hasRight(t, cover.Matrix{Cols: cols, Rows: [][]int{{0}}}, false)
	}
}

// TestMake is about P13.1: all small specs and lists, and mixed ones.
func TestMake(t *testing.T) {
	asks(func(a asked) { a.right(t) })
}

// TestLists is about P13.1: coverings that are told row by row: fewer columns first, then by the first column that differs, and each list once.
func TestLists(t *testing.T) {
	for _, c := range []struct {
		n    int
		on   []api.Set
		rows []string
		want [][]int
	}{
		{0, []api.Set{{0}}, nil, nil},
		{0, []api.Set{{0}}, []string{" 1", " 1"}, nil},
		{0, []api.Set{{1}}, nil, [][]int{{}}},
		{0, []api.Set{{1}}, []string{" 0", " 01"}, [][]int{{}}},
		{0, []api.Set{{1}}, []string{" 1", " 0", " 11"}, [][]int{{0, 2}}},
		{0, []api.Set{{1}, {1}}, []string{" 01", " 10"}, [][]int{{0}, {1}}},
		{0, []api.Set{{1}, {1}, {1}, {1}}, []string{" 1001", " 1001", " 0101"}, [][]int{{}, {2}, {0, 1}, {0, 1, 2}}},
		{0, []api.Set{{1}, {1}, {1}, {1}}, []string{" 1111", " 1111"}, [][]int{{0, 1}}},
		{1, []api.Set{{3}}, []string{"0 1", "1 1"}, [][]int{{0}, {1}}},
		{1, []api.Set{{3}}, []string{"1 1", "0 1"}, [][]int{{0}, {1}}},
		{1, []api.Set{{3}}, []string{"- 1", "- 1"}, [][]int{{0, 1}}},
		{1, []api.Set{{1}}, []string{"- 1", "1 1", "0 1"}, [][]int{{0, 2}}},
		{1, []api.Set{{3}, {2}}, []string{"- 11", "0 11"}, [][]int{{0}, {0, 1}}},
		{2, []api.Set{{0b1110}}, []string{"1- 1", "-1 1"}, [][]int{{0}, {1}, {0, 1}}},
		{2, []api.Set{{0b1110}}, []string{"11 1", "10 1"}, [][]int{{}, {0}, {1}}},
		{2, []api.Set{{0b1111}}, []string{"0- 1", "-0 1", "1- 1", "-1 1"}, [][]int{{0, 1}, {0, 3}, {1, 2}, {2, 3}}},
		{2, []api.Set{{0b1111}}, []string{"1- 1", "0- 1", "-- 1", "-1 1"}, [][]int{{0, 2}, {1, 2}, {0, 2, 3}, {1, 2, 3}}},
		{2, []api.Set{{0b1000}, {0b0001}}, []string{"-- 10", "-- 01", "-- 11"}, [][]int{{0, 2}, {1, 2}}},
		{3, []api.Set{{0b01111110}}, []string{"10- 1", "01- 1", "1-0 1", "0-1 1", "-10 1", "-01 1"}, [][]int{{0, 2}, {0, 5}, {1, 3}, {1, 4}, {2, 4}, {3, 5}}},
	} {
		var l []api.Row
		for _, text := range c.rows {
			x := row(text)
			l = append(l, api.Row{Cube: of(t, x.text), Outs: x.outs})
		}
		m, e := cover.Make(api.Spec{In: c.n, On: c.on, May: c.on}, l)
		if e != api.OK || m.Cols != len(l) || !slices.EqualFunc(m.Rows, c.want, slices.Equal) {
			t.Errorf("Make(%v, %q) = %v, %d, not %v", c.on, c.rows, m, e, c.want)
		}
	}
}

// TestChosenLists is about P13.1: any four lists of columns are those of four outputs of no inputs: also such as are alike when they are written.
func TestChosenLists(t *testing.T) {
	alike := [][]int{
		{}, {0}, {1}, {2}, {10}, {11}, {12}, {21}, {99}, {100}, {101}, {110}, {111}, {123}, {256}, {257}, {258}, {299}, {0, 1}, {1, 0x101}, {1, 2}, {1, 12}, {1, 23}, {1, 2, 3},
		{12, 13}, {2, 10}, {2, 11}, {10, 11}, {9, 10}, {0, 256}, {0, 1, 2}, {0, 12}, {1, 1 + 256, 2 + 256}, {1, 2, 34}, {1, 23, 4 + 20}, {12, 34}, {12, 3 + 20}, {48, 49}, {32, 44}, {44}, {32},
	}
	for j, a := range alike {
		for k, b := range alike {
			c, d := alike[(j+k)%len(alike)], alike[(j*k+5)%len(alike)]
			chosen(t, 300, [][]int{a, b, c, d})
		}
	}
}

// chosen checks the covering of so many columns, of which each output requires one of a list.
func chosen(t *testing.T, cols int, l [][]int) {
	t.Helper()
	a := asked{n: 0, m: 4, on: []uint8{15}, may: []uint8{15}, rows: make([]told, cols)}
	var want []string
	for o, x := range l {
		for _, k := range x {
			a.rows[k].outs |= 1 << o
		}
		want = append(want, padded(x))
	}
	slices.Sort(want)
	if !slices.Equal(a.lists(), slices.Compact(want)) {
		t.Fatalf("the rows do not tell %v", l)
	}
	a.right(t)
}

// TestManyRows is about P13.1: as many rows as there may be columns, and one more.
func TestManyRows(t *testing.T) {
	next := random(31)
	for _, n := range []int{0, 3, 6} {
		on := api.Spec{In: n, On: make([]api.Set, 4), May: make([]api.Set, 4)}
		for _, many := range []int{3999, 4000, 4001, 4002, 9000} {
			a := mixed(n, 4, many, next)[5]
			if many <= api.MaxCols {
				a.right(t)
				continue
			}
			l := a.list(t)
			refused(t, a.spec(), l, api.ErrFull)
			refused(t, on, l, api.ErrFull)
			refused(t, api.Spec{In: n}, l, api.ErrArg)
			for _, k := range []int{0, many / 2, 4000, many - 1} {
				for _, c := range []api.Cube{{Mask: 1, Val: 2}, {Mask: 128, Val: 128}} {
					wrong := slices.Clone(l)
					wrong[k].Cube = c
					refused(t, a.spec(), wrong, api.ErrArg)
				}
			}
		}
	}
}

// TestEdges is about P13.1: for each number of inputs and outputs, what must be on nowhere, everywhere and at one point, without rows, with the row that has all, and with one for each point.
func TestEdges(t *testing.T) {
	for n := range 9 {
		for m := 1; m <= 4; m++ {
			all := told{outs: 1<<m - 1}
			var points []told
			for range n {
				all.text += "-"
			}
			for p := range 1 << n {
				s := ""
				for i := range n {
					s += string(rune('0' + p>>i%2))
				}
				points = append(points, told{s, 1 << (p % m)})
			}
			for _, rows := range [][]told{nil, {all}, points, append(slices.Clone(points), all), append([]told{all, all}, points...)} {
				asked{n: n, m: m, on: make([]uint8, 1<<n), may: full(n, m), rows: rows}.right(t)
				asked{n: n, m: m, on: full(n, m), may: full(n, m), rows: rows}.right(t)
				one := asked{n: n, m: m, on: make([]uint8, 1<<n), may: make([]uint8, 1<<n), rows: rows}
				one.on[len(one.on)/3] = 1 << (m - 1)
				one.right(t)
			}
		}
	}
}

// TestMayBeOn is about P13.1: what may be on is of no account, and so are rows that have what may not be on, and outputs that are not there.
func TestMayBeOn(t *testing.T) {
	asks(func(a asked) {
		want := a.lists()
		a.may = make([]uint8, len(a.on))
		a.rows = slices.Clone(a.rows)
		for k := range a.rows {
			a.rows[k].outs |= 240 &^ (1<<a.m - 1)
		}
		if !slices.Equal(a.lists(), want) {
			t.Fatalf("%v has other lists: %q, not %q", a, a.lists(), want)
		}
		a.right(t)
	})
}

// wrong are specs each of which is not valid in one way.
func wrong() []api.Spec {
	none := make([]api.Set, 5)
	l := []api.Spec{
		{}, {In: 2}, {In: 8}, {In: 1, On: []api.Set{}, May: []api.Set{}},
		{In: 2, On: none, May: none}, {In: 1, May: none[:1]}, {In: 1, On: none[:1]},
		{In: 2, On: none[:1], May: none[:2]}, {In: 2, On: none[:2], May: none[:1]}, {In: 2, On: none[:3], May: none[:4]},
		{In: 2, On: none[:4], May: none}, {In: 2, On: none, May: none[:4]},
		{In: 0, On: none[:1], May: []api.Set{{3}}}, {In: 1, On: none[:2], May: []api.Set{{3}, {7}}},
		{In: 1, On: none[:2], May: []api.Set{{3}, {3, 0, 0, 1 << 63}}}, {In: 6, On: none[:1], May: []api.Set{{1, 1}}},
		{In: 2, On: []api.Set{{4}, {}}, May: []api.Set{{3}, {15}}}, {In: 2, On: []api.Set{{}, {1}}, May: []api.Set{{15}, {14}}},
		{In: 8, On: []api.Set{{0, 0, 0, 1}, {}}, May: []api.Set{{15}, {15}}},
		{In: 9, On: none[:1], May: none[:1]}, {In: 16, On: none[:2], May: none[:2]}, {In: 256, On: none[:1], May: none[:1]},
	}
	for _, n := range odd {
		l = append(l, api.Spec{In: n, On: none[:2], May: []api.Set{{3}, {3}}}, api.Spec{In: n, On: none[:1], May: none[:1]})
	}
	return l
}

// TestWrongSpecs is about P13.1: with any rows, also none and too many.
func TestWrongSpecs(t *testing.T) {
	for _, s := range wrong() {
		for _, l := range [][]api.Row{nil, {}, {{Outs: 1}}, {{Outs: 1}, {Outs: 3}}, {{Cube: api.Cube{Mask: 1, Val: 2}}}, {{Cube: api.Cube{Mask: 255, Val: 255}, Outs: 255}}, make([]api.Row, 4000), make([]api.Row, 4001)} {
			refused(t, s, l, api.ErrArg)
		}
	}
}

// TestWrongCubes is about P13.1: all cubes that are not valid for a number of inputs, at any place, also in rows without outputs.
func TestWrongCubes(t *testing.T) {
	for n := range 9 {
		s := asked{n: n, m: 2, on: full(n, 2), may: full(n, 2)}.spec()
		for mask := range 256 {
			for val := range 256 {
				c := api.Cube{Mask: uint8(mask), Val: uint8(val)}
				if cube.Right(c, n) {
					continue
				}
				x := api.Row{Cube: c, Outs: uint8(val % 5)}
				refused(t, s, []api.Row{x}, api.ErrArg)
				refused(t, s, []api.Row{{Outs: 3}, x}, api.ErrArg)
				refused(t, s, []api.Row{{}, x, {Outs: 3}}, api.ErrArg)
			}
		}
	}
}

// TestSolves is about P13.1: all coverings of up to three rows and three columns, and all lists of up to three numbers, some of which are no columns, in any order and also twice.
func TestSolves(t *testing.T) {
	choices := lists([]int{-1, 0, 1, 2, 3}, 3)
	for cols := range 4 {
		for all := range 1 << (3 * cols) {
			for rows := range 4 {
				m := cover.Matrix{Cols: cols}
				for k := range rows {
					m.Rows = append(m.Rows, pick(all>>(k*cols)%(1<<cols)))
				}
				for _, choice := range choices {
					want := true
					for _, l := range m.Rows {
						met := false
						for _, c := range l {
							met = met || slices.Contains(choice, c)
						}
						want = want && met
					}
					if cover.Solves(m, choice) != want {
						t.Fatalf("Solves(%v, %v) = %v", m, choice, !want)
					}
				}
			}
		}
	}
}

// TestSolvesEdges is about P13.1: no rows are solved by anything, a row without columns by nothing, and numbers that are no columns are ignored.
func TestSolvesEdges(t *testing.T) {
	for _, cols := range []int{0, 1, 2, 64, 65, 3999, 4000} {
		all := counted(cols)
		for _, c := range []struct {
			rows [][]int
			cols []int
			want bool
		}{
			{nil, nil, true}, {nil, all, true}, {nil, odd, true}, {[][]int{}, []int{}, true},
			{[][]int{{}}, nil, false}, {[][]int{{}}, all, false}, {[][]int{nil}, append(all, odd...), false},
			{[][]int{all, {}}, all, false}, {[][]int{{}, all}, all, false},
			{[][]int{all}, nil, false}, {[][]int{all}, odd, false}, {[][]int{all}, []int{cols}, false}, {[][]int{all}, all, cols > 0},
			{[][]int{all, all}, []int{cols - 1}, cols > 0}, {[][]int{all}, append(slices.Clone(odd), cols/2), cols > 0}, {[][]int{all}, []int{0, 0, 0}, cols > 0},
		} {
			if cover.Solves(cover.Matrix{Cols: cols, Rows: c.rows}, c.cols) != c.want {
				t.Fatalf("Solves of %d columns, %v, %v: %v", cols, c.rows, c.cols, !c.want)
			}
		}
		for k := range all {
			m := cover.Matrix{Cols: cols, Rows: [][]int{{k}}}
			if !cover.Solves(m, []int{k}) || cover.Solves(m, []int{k - 1, k + 1, k + 64, k + 256, k - 64, -k - 1}) {
				t.Fatalf("Solves of %d columns, %v", cols, m)
			}
		}
	}
}

// hasCovers checks that rows with these indices cover the spec exactly if they solve the covering, and are within it.
func (a asked) hasCovers(t *testing.T, s api.Spec, l []api.Row, m cover.Matrix, cols []int) {
	t.Helper()
	within := true
	var some []api.Row
	for _, k := range cols {
		within = within && a.within(a.rows[k])
		some = append(some, l[k])
	}
	solves := cover.Solves(m, cols)
	if solves != a.solved(cols) {
		t.Fatalf("%v: Solves(%v, %v) = %v", a, m, cols, solves)
	}
	if spec.Covers(s, some) != (solves && within) {
		t.Fatalf("%v: Solves(%v, %v) = %v, but Covers is not", a, m, cols, solves)
	}
}

// TestCovers is about P13.2: all rows with outputs that are there, of all small specs, and all choices of up to four of those that are within, or one more.
func TestCovers(t *testing.T) {
	for _, c := range []struct{ n, m, most int }{{0, 1, 4}, {0, 2, 4}, {1, 1, 4}, {0, 3, 3}, {1, 2, 3}, {2, 1, 4}} {
		var all []told
		for _, s := range texts(c.n) {
			for outs := range 1 << c.m {
				all = append(all, told{s, uint8(outs)})
			}
		}
		for on := range 1 << (c.m << c.n) {
			for free := range 1 << (c.m << c.n) {
				if on&free != 0 {
					continue
				}
				a := asked{n: c.n, m: c.m, rows: all}
				for p := range 1 << c.n {
					a.on = append(a.on, uint8(on>>(p*c.m)%(1<<c.m)))
					a.may = append(a.may, uint8(free>>(p*c.m)%(1<<c.m)))
				}
				a.choices(t, c.most)
			}
		}
	}
}

// choices checks all choices of up to so many of the rows within, and each of these with a row that is not.
func (a asked) choices(t *testing.T, most int) {
	t.Helper()
	s, l, m := a.spec(), a.list(t), a.made(t)
	var in, out []int
	for k, x := range a.rows {
		if a.within(x) {
			in = append(in, k)
		} else {
			out = append(out, k)
		}
	}
	var more func(cols []int, from int)
	more = func(cols []int, from int) {
		a.hasCovers(t, s, l, m, cols)
		if len(out) > 0 {
			a.hasCovers(t, s, l, m, append(slices.Clone(cols), out[(len(cols)+from)%len(out)]))
		}
		for k := from; k < len(in) && len(cols) < most; k++ {
			more(append(slices.Clone(cols), in[k]), k+1)
		}
	}
	more(nil, 0)
}

// TestCoversMixed is about P13.2: prime rows of mixed specs, and others: all of them, none, some of them, and all but a few.
func TestCoversMixed(t *testing.T) {
	next := random(17)
	for n := range 9 {
		for m := 1; m <= 4; m++ {
			for _, a := range mixed(n, m, 10, next) {
				s := a.spec()
				primes, e := multi.All(s)
				if e != api.OK || len(primes) > 1000 {
					continue
				}
				for _, x := range primes {
					text, _ := cube.Text(x.Cube, n)
					a.rows = append(a.rows, told{text, x.Outs})
				}
				l, matrix := a.list(t), a.made(t)
				all := counted(len(a.rows))
				a.hasCovers(t, s, l, matrix, all[10:])
				if !cover.Solves(matrix, all[10:]) {
					t.Fatalf("%v: the prime rows do not solve %v", a, matrix)
				}
				for k := range 30 {
					var some []int
					for _, c := range all[min(k, 10):] {
						if next(6) < k%7 {
							some = append(some, c)
						}
					}
					a.hasCovers(t, s, l, matrix, some)
				}
			}
		}
	}
}

// TestCoversNeeded is about P13.2: of a cover in which none is redundant, as package isop finds it, all rows solve the covering, and all but one do not.
func TestCoversNeeded(t *testing.T) {
	next := random(19)
	for n := range 9 {
		for _, a := range mixed(n, 1, 0, next) {
			s := a.spec()
			cubes, e := isop.Cover(s.On[0], s.May[0], n)
			if e != api.OK {
				t.Fatalf("Cover(%v): %d", s, e)
			}
			var l []api.Row
			for _, c := range cubes {
				l = append(l, api.Row{Cube: c, Outs: 1})
			}
			m, e := cover.Make(s, l)
			all := counted(len(l))
			if e != api.OK || !cover.Solves(m, all) {
				t.Fatalf("Make(%v, %v) = %v, %d, which they do not solve", s, l, m, e)
			}
			for k := range all {
				if cover.Solves(m, slices.Concat(all[:k], all[k+1:])) {
					t.Fatalf("Make(%v, %v) = %v, which is solved without %d", s, l, m, k)
				}
			}
		}
	}
}

// TestMore is about P13.3: columns that come to others, and numbers that are no columns, leave what is solved solved.
func TestMore(t *testing.T) {
	next := random(23)
	for cols := range 4 {
		for all := range 1 << (2 * cols) {
			m := cover.Matrix{Cols: cols, Rows: [][]int{pick(all >> cols), pick(all % (1 << cols))}}
			for some := range 1 << cols {
				for more := range 1 << cols {
					if cover.Solves(m, pick(some)) && !(cover.Solves(m, pick(some|more)) && cover.Solves(m, append(pick(more), pick(some)...))) {
						t.Fatalf("Solves(%v): %b does, %b does not", m, some, some|more)
					}
				}
			}
		}
	}
	for n := range 9 {
		for _, a := range mixed(n, 1+n%4, 20, next) {
			m := a.made(t)
			var cols []int
			solved := cover.Solves(m, nil)
			for range 60 {
				cols = slices.Insert(cols, next(len(cols)+1), next(24)-2)
				now := cover.Solves(m, cols)
				if solved && !now {
					t.Fatalf("Solves(%v, %v) = false", m, cols)
				}
				solved = now
			}
			if empty := len(m.Rows) > 0 && len(m.Rows[0]) == 0; solved && empty {
				t.Fatalf("Solves(%v, %v), but there is a row without columns", m, cols)
			}
		}
	}
}

// TestExample is the chapter's.
func TestExample(t *testing.T) {
	s := api.Spec{In: 1, On: []api.Set{{3}}, May: []api.Set{{3}}}
	l := []api.Row{{Cube: api.Cube{Mask: 1}, Outs: 1}, {Outs: 1}}
	m, e := cover.Make(s, l)
	if want := [][]int{{1}, {0, 1}}; e != api.OK || m.Cols != 2 || !slices.EqualFunc(m.Rows, want, slices.Equal) {
		t.Errorf("Make(%v, %v) = %v, %d", s, l, m, e)
	}
}

// TestMemory is about P0 (R3): arguments stay as they are, and what a call returned is nobody else's, spare capacity included.
func TestMemory(t *testing.T) {
	a := mixed(5, 3, 40, random(29))[6]
	s, l := a.spec(), a.list(t)
	first, _ := cover.Make(s, l)
	second, _ := cover.Make(s, l)
	want := a.lists()
	for k, x := range first.Rows {
		x = x[:cap(x)]
		for j := range x {
			x[j] = -k
		}
	}
	for k, x := range first.Rows {
		for _, c := range x[:cap(x)] {
			if c != -k {
				t.Fatalf("two rows share memory: %v", first)
			}
		}
	}
	first.Rows = first.Rows[:cap(first.Rows)]
	for k := range first.Rows {
		first.Rows[k] = []int{77}
	}
	for _, m := range []cover.Matrix{second, a.made(t)} {
		var got []string
		for _, x := range m.Rows {
			got = append(got, padded(x))
		}
		if len(want) < 10 || !slices.Equal(got, want) {
			t.Errorf("Make shares memory: %q, not %q", got, want)
		}
	}
	if !spec.Same(s, a.spec()) || !slices.Equal(l, a.list(t)) {
		t.Errorf("the arguments have become %v, %v", s, l)
	}
}

// TestArguments is about P0 (R3): a covering and columns stay as they are, behind their ends too.
func TestArguments(t *testing.T) {
	cols := []int{9, 2, -1, 0, 2, 55, 66}[:5]
	first := []int{0, 2, 77}
	rows := [][]int{first[:2], {}, {1, 2}, {5}}[:3]
	m := cover.Matrix{Cols: 3, Rows: rows}
	for range 2 {
		if !cover.Right(m) || cover.Solves(m, cols) {
			t.Fatalf("Right or Solves of %v", m)
		}
	}
	cover.Solves(cover.Matrix{Cols: 3, Rows: [][]int{{2, 0}}}, cols)
	if !slices.Equal(cols[:7], []int{9, 2, -1, 0, 2, 55, 66}) || !slices.EqualFunc(rows[:4], [][]int{{0, 2}, {}, {1, 2}, {5}}, slices.Equal) || first[2] != 77 {
		t.Errorf("the arguments have become %v, %v", rows[:4], cols[:7])
	}
}

// TestSame is about P0 (R1, R4): any arguments, always with the same results.
func TestSame(t *testing.T) {
	next := random(37)
	all := wrong()
	for n := range 9 {
		for _, a := range mixed(n, 1+n%4, 0, next) {
			all = append(all, a.spec())
		}
	}
	for _, s := range all {
		for k := range 12 {
			var l []api.Row
			for range next(40) {
				c := api.Cube{Mask: uint8(next(256)), Val: uint8(next(256))}
				if k > 2 && s.In >= 0 && s.In <= 8 {
					c.Mask &= 1<<s.In - 1
					c.Val &= c.Mask
				}
				l = append(l, api.Row{Cube: c, Outs: uint8(next(256))})
			}
			first, e := cover.Make(s, l)
			for range 4 {
				if again, f := cover.Make(s, l); e != f || first.Cols != again.Cols || !slices.EqualFunc(first.Rows, again.Rows, slices.Equal) {
					t.Fatalf("Make(%v, %v) = %v, %d, then %v, %d", s, l, first, e, again, f)
				}
			}
			if !cover.Right(first) {
				t.Fatalf("Make(%v, %v) = %v, which is not valid", s, l, first)
			}
		}
	}
	for range 20000 {
		m := cover.Matrix{Cols: next(9) - 1}
		for range next(4) {
			var l []int
			for range next(4) {
				l = append(l, next(10)-1)
			}
			m.Rows = append(m.Rows, l)
		}
		cols := []int{next(12) - 2, next(12) - 2, odd[next(len(odd))]}
		if cover.Right(m) != cover.Right(m) || cover.Solves(m, cols) != cover.Solves(m, cols) || cover.Solves(m, cols) && !cover.Right(m) {
			t.Fatalf("%v, %v: Right is %v, Solves is %v", m, cols, cover.Right(m), cover.Solves(m, cols))
		}
	}
}
