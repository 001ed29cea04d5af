package spec_test

import (
	"reflect"
	"slices"
	"strings"
	"testing"

	"drawknife/api"
	"drawknife/pla"
	"drawknife/set"
	"drawknife/spec"
)

// rowsOf makes the rows of texts like those of a table: a 1 is an output of the row.
func rowsOf(texts []string) []api.Row {
	var l []api.Row
	for _, text := range texts {
		literals, outs, _ := strings.Cut(text, " ")
		l = append(l, api.Row{Cube: cubeOf(literals), Outs: cubeOf(outs).Val})
	}
	return l
}

// covered are the points that are on for output o, by the texts of rows.
func covered(texts []string, in, o int) api.Set {
	return pick(in, func(p int) bool { return form{rows: texts}.says(p, o, '1') })
}

// covers tells point by point whether rows, each with an output, cover s.
func covers(s api.Spec, texts []string) bool {
	for o := range s.On {
		for p := range 256 {
			on := set.Has(covered(texts, s.In, o), p)
			if on && !set.Has(s.May[o], p) || !on && set.Has(s.On[o], p) {
				return false
			}
		}
	}
	return true
}

// specs are all specs of so many inputs (0 to 2) and one output.
func specs(in int) []api.Spec {
	var l []api.Spec
	for _, says := range words(1<<in, "01-") {
		byteOf := func(p int) byte { return says[p] }
		l = append(l, api.Spec{
			In:  in,
			On:  []api.Set{pick(in, func(p int) bool { return byteOf(p) == '1' })},
			May: []api.Set{pick(in, func(p int) bool { return byteOf(p) != '0' })},
		})
	}
	return l
}

// product are the specs of all outputs of one of a, and then all of one of b.
func product(a, b []api.Spec) []api.Spec {
	var l []api.Spec
	for _, x := range a {
		for _, y := range b {
			l = append(l, api.Spec{In: x.In, On: slices.Concat(x.On, y.On), May: slices.Concat(x.May, y.May)})
		}
	}
	return l
}

// between tells whether a table, read as kind F, requires something between On and May of s.
func between(t *testing.T, s api.Spec, x api.Table) bool {
	t.Helper()
	x.Kind = api.F
	got, e := spec.Of(x)
	if e != api.OK || got.In != s.In || len(got.On) != len(s.On) {
		t.Fatalf("Of(%+v) = %v, %d", x, got, e)
	}
	for o, on := range got.On {
		if !set.Within(s.On[o], on) || !set.Within(on, s.May[o]) {
			return false
		}
	}
	return true
}

// checked tests, for rows with outputs, whether they cover s (P4.2), and that their table says the same (P4.3).
func checked(t *testing.T, s api.Spec, texts []string) {
	t.Helper()
	l := rowsOf(texts)
	want := covers(s, texts)
	if got := spec.Covers(s, l); got != want {
		t.Fatalf("Covers(%v, %v) = %v", s, texts, got)
	}
	x, e := spec.Table(s, l)
	if e != api.OK || between(t, s, x) != want {
		t.Fatalf("Covers(%v, %v) = %v, but not its table: %+v, %d", s, texts, want, x, e)
	}
}

// TestCoversSmall is about P4.2 and P4.3: all specs of a size, and all lists of a few rows.
func TestCoversSmall(t *testing.T) {
	none, one, two := specs(0), specs(1), specs(2)
	for _, size := range []struct {
		specs     []api.Spec
		outs      []string
		in, count int
	}{
		{none, []string{"1"}, 0, 2},
		{product(none, none), []string{"01", "10", "11"}, 0, 2},
		{one, []string{"1"}, 1, 3},
		{product(one, one), []string{"01", "10", "11"}, 1, 2},
		{two, []string{"1"}, 2, 2},
	} {
		all := lists(pairs(words(size.in, "01-"), size.outs), size.count)
		for _, s := range size.specs {
			for _, texts := range all {
				checked(t, s, texts)
			}
		}
	}
}

// TestCoversMixed is about P4.2 and P4.3: rows of all sizes, for specs that they cover, and for others that ask for one point more, or permit one less.
func TestCoversMixed(t *testing.T) {
	next := random(3)
	for in := range 9 {
		for out := 1; out <= 4; out++ {
			for _, n := range []int{0, 1, 2, 7, 63, 64} {
				texts := some(next, in, out, n)
				s := api.Spec{In: in}
				for o := range out {
					s.On = append(s.On, covered(texts, in, o))
					s.May = append(s.May, s.On[o])
				}
				checked(t, s, texts)
				checked(t, looser(next, s), texts)
				for o := range out {
					narrow(t, s, texts, o)
				}
			}
		}
	}
}

// some are n rows, each with an output.
func some(next func(n int) int, in, out, n int) []string {
	var l []string
	for len(l) < n {
		if outs := word(next, out, "01"); strings.Contains(outs, "1") {
			l = append(l, word(next, in, "0011-")+" "+outs)
		}
	}
	return l
}

// looser asks for fewer points than s, and permits more.
func looser(next func(n int) int, s api.Spec) api.Spec {
	return changed(s, func(s *api.Spec) {
		for o := range s.On {
			s.On[o] = set.And(s.On[o], pick(s.In, func(int) bool { return next(3) > 0 }))
			s.May[o] = set.Or(s.May[o], pick(s.In, func(int) bool { return next(3) == 0 }))
		}
	})
}

// narrow tests that rows which give exactly s do not cover it, if output o has to have one point more or less.
func narrow(t *testing.T, s api.Spec, texts []string, o int) {
	t.Helper()
	l := rowsOf(texts)
	for p := range int(1) << s.In {
		point := set.With(api.Set{}, p)
		x := changed(s, func(s *api.Spec) {
			if set.Has(s.On[o], p) {
				s.On[o], s.May[o] = set.Less(s.On[o], point), set.Less(s.May[o], point)
			} else {
				s.On[o], s.May[o] = set.Or(s.On[o], point), set.Or(s.May[o], point)
			}
		})
		if !spec.Right(x) || spec.Covers(x, l) {
			t.Fatalf("Covers(%v, %v), where point %d of output %d is not as the rows have it", x, texts, p, o)
		}
	}
}

// TestKindF is about P4.3: what a table of kind F requires is covered by its lines that have a 1.
func TestKindF(t *testing.T) {
	for _, f := range append(mixed(), small()...) {
		if f.kind != "f" {
			continue
		}
		s, e := spec.Of(f.table())
		var with []string
		for _, row := range f.rows {
			if _, outs, _ := strings.Cut(row, " "); strings.Contains(outs, "1") {
				with = append(with, row)
			}
		}
		if e != api.OK || !spec.Covers(s, rowsOf(with)) {
			t.Fatalf("the lines of %v do not cover what they require: %v, %d", f, s, e)
		}
	}
}

// unfit are rows that are not permitted for two inputs and three outputs, each for one reason: by its cube, and by its Outs.
func unfit() (byCube, byOuts []api.Row) {
	for _, c := range []api.Cube{{Mask: 4}, {Mask: 128}, {Mask: 4, Val: 4}, {Mask: 7, Val: 1}, {Mask: 1, Val: 2}, {Val: 1}, {Val: 128}, {Mask: 3, Val: 7}} {
		byCube = append(byCube, api.Row{Cube: c, Outs: 1}, api.Row{Cube: c, Outs: 7})
	}
	for _, outs := range []uint8{0, 8, 9, 15, 16, 32, 64, 128, 129, 248, 255} {
		byOuts = append(byOuts, api.Row{Outs: outs}, api.Row{Cube: cubeOf("11"), Outs: outs})
	}
	return byCube, byOuts
}

// loose is a spec of two inputs and three outputs that asks for nothing, and permits all.
func loose() api.Spec {
	return api.Spec{In: 2, On: make([]api.Set, 3), May: []api.Set{{15}, {15}, {15}}}
}

// at puts a row into a list of n others, at each place.
func at(x api.Row, n int) [][]api.Row {
	var l [][]api.Row
	for k := range n + 1 {
		l = append(l, slices.Insert(slices.Repeat([]api.Row{{Cube: cubeOf("1-"), Outs: 5}}, n), k, x))
	}
	return l
}

// TestUnfitRows is about P4.2: a row that is not permitted, among others, is refused, also where there are too many.
func TestUnfitRows(t *testing.T) {
	s := loose()
	byCube, byOuts := unfit()
	for _, x := range slices.Concat(byCube, byOuts) {
		for _, l := range append(at(x, 2), at(x, 64)...) {
			if spec.Covers(s, l) {
				t.Fatalf("Covers, with the row %+v", x)
			}
			if u, e := spec.Table(s, l); e != api.ErrArg || !reflect.DeepEqual(u, api.Table{}) {
				t.Fatalf("Table, with the row %+v: %+v, %d", x, u, e)
			}
		}
	}
}

// TestOutsOneByOne is about P4.2: all Outs that there are, for each number of outputs.
func TestOutsOneByOne(t *testing.T) {
	for out := 1; out <= 4; out++ {
		s := api.Spec{In: 0, On: make([]api.Set, out), May: slices.Repeat([]api.Set{{1}}, out)}
		for outs := range 256 {
			l := []api.Row{{Outs: uint8(outs)}}
			want := outs >= 1 && outs < 1<<out
			if got := spec.Covers(s, l); got != want {
				t.Errorf("Covers, for %d outputs and Outs %d: %v", out, outs, got)
			}
			if _, e := spec.Table(s, l); (e == api.OK) != want || !want && e != api.ErrArg {
				t.Errorf("Table, for %d outputs and Outs %d: %d", out, outs, e)
			}
		}
	}
}

// TestWrongSpecs is about P4.2: a spec that is not valid is covered by nothing, and has no table.
func TestWrongSpecs(t *testing.T) {
	row := api.Row{Outs: 1}
	for _, s := range wrong() {
		for _, l := range [][]api.Row{nil, {}, {row}, {{Outs: 2}}, {{Cube: cubeOf("1"), Outs: 1}}, slices.Repeat([]api.Row{row}, 65)} {
			if spec.Covers(s, l) {
				t.Errorf("Covers(%v, %v)", s, l)
			}
			if u, e := spec.Table(s, l); e != api.ErrArg || !reflect.DeepEqual(u, api.Table{}) {
				t.Errorf("Table(%v, %v) = %+v, %d", s, l, u, e)
			}
		}
	}
}

// TestManyRows is about P4.2: a table has up to 64 rows, but more may cover, and have points.
func TestManyRows(t *testing.T) {
	s := loose()
	s.On[2] = api.Set{10}
	for _, n := range []int{0, 1, 63, 64, 65, 66, 128, 500} {
		l := slices.Repeat([]api.Row{{Cube: cubeOf("01"), Outs: 1}}, n)
		if n > 0 {
			l[n-1] = api.Row{Cube: cubeOf("1-"), Outs: 4}
		}
		if got := spec.Covers(s, l); got != (n > 0) {
			t.Errorf("Covers, with %d rows: %v", n, got)
		}
		if p, e := spec.Points(l, 2, 2); e != api.OK || n > 0 && p != (api.Set{10}) {
			t.Errorf("Points, with %d rows: %v, %d", n, p, e)
		}
		u, e := spec.Table(s, l)
		if n <= 64 && (e != api.OK || len(u.Lines) != n || !pla.Right(u)) {
			t.Errorf("Table, with %d rows: %+v, %d", n, u, e)
		}
		if n > 64 && (e != api.ErrFull || !reflect.DeepEqual(u, api.Table{})) {
			t.Errorf("Table, with %d rows: %+v, %d", n, u, e)
		}
	}
}

// TestTable is about P4.2: the lines are the rows in their order, whether they cover the spec or not.
func TestTable(t *testing.T) {
	next := random(5)
	for in := range 9 {
		for out := 1; out <= 4; out++ {
			for _, n := range []int{0, 1, 2, 7, 64} {
				texts := some(next, in, out, n)
				s := api.Spec{In: in, On: slices.Repeat([]api.Set{{1}}, out), May: slices.Repeat([]api.Set{{1}}, out)}
				want := form{in, out, "fd", texts}.table()
				if u, e := spec.Table(s, rowsOf(texts)); e != api.OK || !pla.Same(u, want) || !pla.Right(u) {
					t.Fatalf("Table, for %v: %+v, %d", texts, u, e)
				}
			}
		}
	}
}

// TestPoints is about P4.2: each output of rows of all sizes, also of rows with bits that are no outputs, or with none.
func TestPoints(t *testing.T) {
	next := random(7)
	for in := range 9 {
		for _, n := range []int{0, 1, 2, 7, 70} {
			var texts []string
			for range n {
				texts = append(texts, word(next, in, "0011-")+" "+word(next, 8, "0001"))
			}
			for o := range 4 {
				want := covered(texts, in, o)
				if got, e := spec.Points(rowsOf(texts), in, o); e != api.OK || got != want {
					t.Fatalf("Points(%v, %d, %d) = %v, %d, not %v", texts, in, o, got, e, want)
				}
			}
		}
	}
}

// TestPointsByOuts is about P4.2: only the bit of the output counts.
func TestPointsByOuts(t *testing.T) {
	for outs := range 256 {
		for o, power := range []int{1, 2, 4, 8} {
			want := api.Set{}
			if outs/power%2 == 1 {
				want = api.Set{1}
			}
			if got, e := spec.Points([]api.Row{{Outs: uint8(outs)}}, 0, o); e != api.OK || got != want {
				t.Errorf("Points, for Outs %d and output %d: %v, %d", outs, o, got, e)
			}
		}
	}
}

// TestPointsWrong is about P4.2: each wrong argument, with and without rows, and whether the row has the output or not.
func TestPointsWrong(t *testing.T) {
	good := []api.Row{{Cube: cubeOf("1-"), Outs: 15}, {Outs: 1}}
	refused := func(l []api.Row, in, out int) {
		t.Helper()
		if p, e := spec.Points(l, in, out); e != api.ErrArg || p != (api.Set{}) {
			t.Errorf("Points(%v, %d, %d) = %v, %d", l, in, out, p, e)
		}
	}
	for _, l := range [][]api.Row{nil, good, good[1:]} {
		for _, n := range odd {
			refused(l, n, 0)
			refused(l, 2, n)
			refused(l, n, n)
		}
		for out := 4; out < 9; out++ {
			refused(l, 2, out)
		}
	}
	refused(good, 0, 0)
	refused(nil, -1, 0)
	refused(nil, 9, 0)
	refused(nil, 0, -1)
	refused(nil, 0, 4)
	byCube, byOuts := unfit()
	for _, x := range byCube {
		for o := range 4 {
			for _, l := range at(x, 2) {
				refused(l, 2, o)
			}
		}
	}
	for _, x := range byOuts {
		if _, e := spec.Points([]api.Row{x}, 2, 0); e != api.OK {
			t.Errorf("Points, with the row %+v: %d", x, e)
		}
	}
}

// TestRowsMemory is about P0 (R3, R4): arguments stay as they are, and no line shares its outputs with another one, spare capacity included.
func TestRowsMemory(t *testing.T) {
	s, l := loose(), rowsOf([]string{"1- 101", "01 101", "-- 010"})
	for name, call := range map[string]func(){
		"Right":  func() { spec.Right(s) },
		"Points": func() { spec.Points(l, 2, 0) },
		"Covers": func() { spec.Covers(s, l) },
		"Table":  func() { spec.Table(s, l) },
		"Same":   func() { spec.Same(s, loose()) },
	} {
		call()
		if !reflect.DeepEqual(s, loose()) || !slices.Equal(l, rowsOf([]string{"1- 101", "01 101", "-- 010"})) {
			t.Errorf("%s changes its arguments", name)
		}
	}
	other, _ := spec.Table(s, l)
	for k := range l {
		u, _ := spec.Table(s, l)
		outs := u.Lines[k].Outs
		full := outs[:cap(outs)]
		for i := range full {
			full[i] = 7
		}
		want := form{2, 3, "fd", []string{"1- 101", "01 101", "-- 010"}}.table()
		if !pla.Same(other, want) {
			t.Errorf("a change of line %d makes %+v of another table", k, other)
		}
		want.Lines[k].Outs = []int{7, 7, 7}
		if !pla.Same(u, want) {
			t.Errorf("a change of line %d makes %+v", k, u)
		}
	}
}
