package spec_test

import (
	"math"
	"reflect"
	"slices"
	"strings"
	"testing"

	"drawknife/api"
	"drawknife/set"
	"drawknife/spec"
)

// A form says a table by its words, so that what is expected does not rest on Mask, Val, sets and numbers.
type form struct {
	in, out int
	kind    string
	rows    []string
}

var kinds = []string{"f", "fd", "fr", "fdr"}

func (f form) table() api.Table {
	t := api.Table{Kind: slices.Index(kinds, f.kind), In: f.in, Out: f.out}
	for _, row := range f.rows {
		literals, outs, _ := strings.Cut(row, " ")
		l := api.Line{Cube: cubeOf(literals)}
		for i := range len(outs) {
			l.Outs = append(l.Outs, map[byte]int{'0': 0, '1': 1, '-': 2}[outs[i]])
		}
		t.Lines = append(t.Lines, l)
	}
	return t
}

// cubeOf makes the cube of a text by adding up powers of two.
func cubeOf(s string) api.Cube {
	var c api.Cube
	power := 1
	for i := range len(s) {
		if s[i] != '-' {
			c.Mask += uint8(power)
		}
		if s[i] == '1' {
			c.Val += uint8(power)
		}
		power *= 2
	}
	return c
}

// contains tells by the text of a cube whether a point is in it.
func contains(s string, p int) bool {
	for i := range len(s) {
		if s[i] == '0' && p%2 == 1 || s[i] == '1' && p%2 == 0 {
			return false
		}
		p /= 2
	}
	return true
}

// says reports whether one of the rows gives point p the byte v for output o.
func (f form) says(p, o int, v byte) bool {
	return slices.ContainsFunc(f.rows, func(row string) bool {
		literals, outs, _ := strings.Cut(row, " ")
		return outs[o] == v && contains(literals, p)
	})
}

// pick is the set of those points of n inputs for which in is true.
func pick(n int, in func(p int) bool) api.Set {
	var s api.Set
	for p := range int(math.Pow(2, float64(n))) {
		if in(p) {
			s = set.With(s, p)
		}
	}
	return s
}

// required is what the table of f requires, point by point, and whether a point is on and off.
func (f form) required() (api.Spec, bool) {
	s := api.Spec{In: f.in}
	both := false
	for o := range f.out {
		one := func(p int) bool { return f.says(p, o, '1') }
		zero := func(p int) bool { return f.says(p, o, '0') }
		s.On = append(s.On, pick(f.in, one))
		s.May = append(s.May, pick(f.in, func(p int) bool {
			switch f.kind {
			case "f":
				return one(p)
			case "fd":
				return one(p) || f.says(p, o, '-')
			}
			both = both || one(p) && zero(p)
			return !zero(p)
		}))
	}
	return s, both
}

// words are all words of n bytes out of the given ones.
func words(n int, bytes string) []string {
	l := []string{""}
	for range n {
		var longer []string
		for _, w := range l {
			for i := range len(bytes) {
				longer = append(longer, w+bytes[i:i+1])
			}
		}
		l = longer
	}
	return l
}

// pairs are all rows of a word of a and one of b.
func pairs(a, b []string) []string {
	var l []string
	for _, x := range a {
		for _, y := range b {
			l = append(l, x+" "+y)
		}
	}
	return l
}

// lists are all lists of up to n of the rows.
func lists(rows []string, n int) [][]string {
	l := [][]string{nil}
	last := l
	for range n {
		var longer [][]string
		for _, x := range last {
			for _, row := range rows {
				longer = append(longer, append(slices.Clone(x), row))
			}
		}
		l = append(l, longer...)
		last = longer
	}
	return l
}

// random returns a function whose next number is below n.
func random(seed uint32) func(n int) int {
	return func(n int) int {
		seed = seed*1664525 + 1013904223
		return int(seed>>16) % n
	}
}

// word makes a word of n bytes out of the given ones.
func word(next func(n int) int, n int, bytes string) string {
	var w strings.Builder
	for range n {
		w.WriteByte(bytes[next(len(bytes))])
	}
	return w.String()
}

// mixed are tables of each kind, of all numbers of inputs and outputs, without lines, with one, some, and as many as there may be; with few zeros and with many.
func mixed() []form {
	next := random(1)
	var l []form
	for _, kind := range kinds {
		for in := range 9 {
			for out := 1; out <= 4; out++ {
				for _, n := range []int{0, 1, 2, 5, 64} {
					for _, bytes := range []string{"01-", "1-", "0-", "1----", "0----------1"} {
						f := form{in: in, out: out, kind: kind}
						for range n {
							f.rows = append(f.rows, word(next, in, "0101-")+" "+word(next, out, bytes))
						}
						l = append(l, f)
					}
				}
			}
		}
	}
	return l
}

// small are all tables of one input and one output with up to three lines, all of two inputs and one output, and of one input and two outputs, with up to two, and all of no input with up to three.
func small() []form {
	var l []form
	for _, size := range []struct{ in, out, rows int }{{1, 1, 3}, {2, 1, 2}, {1, 2, 2}, {0, 1, 3}, {0, 2, 3}} {
		rows := pairs(words(size.in, "01-"), words(size.out, "01-"))
		for _, list := range lists(rows, size.rows) {
			for _, kind := range kinds {
				l = append(l, form{size.in, size.out, kind, list})
			}
		}
	}
	return l
}

// deep is a copy of a spec that shares nothing with it.
func deep(s api.Spec) api.Spec {
	s.On, s.May = slices.Clone(s.On), slices.Clone(s.May)
	return s
}

// changed is s after a change of a copy of it.
func changed(s api.Spec, change func(s *api.Spec)) api.Spec {
	s = deep(s)
	change(&s)
	return s
}

// odd are numbers that are neither of inputs nor of outputs.
var odd = []int{-1, -2, -8, -64, 9, 10, 16, 64, 255, 256, 257, math.MaxInt32, math.MinInt32, math.MaxInt, math.MinInt}

// ofTwo is a spec of two inputs and three outputs.
func ofTwo() api.Spec {
	return api.Spec{In: 2, On: []api.Set{{2}, {}, {15}}, May: []api.Set{{3}, {8}, {15}}}
}

// right are valid specs.
func right() []api.Spec {
	full := ^uint64(0)
	all := api.Set{full, full, full, full}
	return []api.Spec{
		ofTwo(),
		{In: 0, On: []api.Set{{}}, May: []api.Set{{}}},
		{In: 0, On: []api.Set{{}}, May: []api.Set{{1}}},
		{In: 0, On: []api.Set{{1}, {1}, {}, {}}, May: []api.Set{{1}, {1}, {1}, {}}},
		{In: 1, On: []api.Set{{}, {2}}, May: []api.Set{{3}, {2}}},
		{In: 6, On: []api.Set{{1 << 63}}, May: []api.Set{{full}}},
		{In: 7, On: []api.Set{{0, 1 << 63}}, May: []api.Set{{full, full}}},
		{In: 8, On: []api.Set{{0, 0, 0, 1 << 63}, all, {}, {1}}, May: []api.Set{all, all, all, {1, 0, 0, 5}}},
	}
}

// wrong are specs each of which is not valid in one way.
func wrong() []api.Spec {
	none := []api.Set{{}, {}, {}, {}, {}}
	l := []api.Spec{
		{}, {In: 2}, {In: 8}, {In: 2, On: []api.Set{}, May: []api.Set{}},
		{In: 2, On: none, May: none},
		{In: 9, On: none[:1], May: none[:1]},
		{In: 2, May: none[:1]}, {In: 2, On: none[:1]},
		{In: 2, On: none[:1], May: none[:2]}, {In: 2, On: none[:2], May: none[:1]},
		{In: 2, On: none[:4], May: none[:5]}, {In: 2, On: none[:5], May: none[:4]},
		{In: 2, On: none[:1], May: none[:3]}, {In: 2, On: make([]api.Set, 200), May: make([]api.Set, 200)},
		{In: 0, On: none[:1], May: []api.Set{{2}}}, {In: 0, On: []api.Set{{2}}, May: []api.Set{{2}}},
		{In: 1, On: none[:2], May: []api.Set{{3}, {4}}}, {In: 1, On: none[:2], May: []api.Set{{0, 0, 0, 1 << 63}, {3}}},
		{In: 5, On: none[:1], May: []api.Set{{1 << 32}}}, {In: 6, On: none[:1], May: []api.Set{{0, 1}}},
		{In: 7, On: none[:4], May: []api.Set{{}, {}, {}, {0, 0, 1}}},
		{In: 8, On: []api.Set{{0, 0, 0, 2}}, May: []api.Set{{2, 2, 2}}},
		{In: 8, On: []api.Set{{}, {1}}, May: []api.Set{{1}, {}}},
	}
	for _, n := range odd {
		l = append(l, changed(ofTwo(), func(s *api.Spec) { s.In = n }))
	}
	l = append(l, changed(ofTwo(), func(s *api.Spec) { s.In = 1 }), changed(ofTwo(), func(s *api.Spec) { s.In = 0 }))
	for o := range 3 {
		l = append(l,
			changed(ofTwo(), func(s *api.Spec) { s.May[o] = api.Set{}; s.On[o] = api.Set{8} }),
			changed(ofTwo(), func(s *api.Spec) { s.May[o] = api.Set{31} }),
			changed(ofTwo(), func(s *api.Spec) { s.On[o] = api.Set{0, 1} }),
		)
	}
	return l
}

// TestRight is about P4.1: valid specs, and each way not to be one.
func TestRight(t *testing.T) {
	for _, s := range right() {
		if !spec.Right(s) {
			t.Errorf("Right(%v) = false", s)
		}
	}
	for _, s := range wrong() {
		if spec.Right(s) {
			t.Errorf("Right(%v)", s)
		}
	}
}

// TestRightBySize is about P4.1: all numbers of inputs and outputs.
func TestRightBySize(t *testing.T) {
	for in := -3; in < 12; in++ {
		for on := range 7 {
			for may := range 7 {
				s := api.Spec{In: in, On: make([]api.Set, on), May: make([]api.Set, may)}
				want := in >= 0 && in <= 8 && on >= 1 && on <= 4 && on == may
				if got := spec.Right(s); got != want {
					t.Errorf("Right, for %d inputs, %d On and %d May: %v", in, on, may, got)
				}
			}
		}
	}
}

// TestRightByPoint is about P4.1: each point is one of so many inputs or not, and each that must be on may be on.
func TestRightByPoint(t *testing.T) {
	for in := range 9 {
		for p := range 256 {
			is := set.With(api.Set{}, p)
			want := float64(p) < math.Pow(2, float64(in))
			for o := range 4 {
				s := api.Spec{In: in, On: make([]api.Set, 4), May: make([]api.Set, 4)}
				s.May[o] = is
				if got := spec.Right(s); got != want {
					t.Fatalf("Right, for %d inputs and point %d of output %d: %v", in, p, o, got)
				}
				s.On[o] = is
				if got := spec.Right(s); got != want {
					t.Fatalf("Right, for %d inputs and point %d of output %d, which must be on: %v", in, p, o, got)
				}
				s.May[o] = api.Set{}
				if spec.Right(s) {
					t.Fatalf("Right, for %d inputs and point %d of output %d, which must but may not be on", in, p, o)
				}
			}
		}
	}
}

// TestSame is about P4.1: specs that differ in one thing, valid or not.
func TestSame(t *testing.T) {
	base := ofTwo()
	l := []api.Spec{
		base,
		changed(base, func(s *api.Spec) { s.In = 3 }),
		changed(base, func(s *api.Spec) { s.In = -1 }),
		changed(base, func(s *api.Spec) { s.On[0] = api.Set{3} }),
		changed(base, func(s *api.Spec) { s.On[2] = api.Set{15, 0, 0, 1} }),
		changed(base, func(s *api.Spec) { s.May[0] = api.Set{2} }),
		changed(base, func(s *api.Spec) { s.May[2] = api.Set{15, 0, 1} }),
		changed(base, func(s *api.Spec) { s.On, s.May = s.May, s.On }),
		changed(base, func(s *api.Spec) { s.On = s.On[:2] }),
		changed(base, func(s *api.Spec) { s.May = s.May[:2] }),
		changed(base, func(s *api.Spec) { s.On, s.May = s.On[:2], s.May[:2] }),
		changed(base, func(s *api.Spec) { s.On, s.May = s.On[1:], s.May[1:] }),
		changed(base, func(s *api.Spec) { s.On = append(s.On, api.Set{}) }),
		changed(base, func(s *api.Spec) { s.May = append(s.May, api.Set{}) }),
		changed(base, func(s *api.Spec) { slices.Reverse(s.On) }),
		changed(base, func(s *api.Spec) { slices.Reverse(s.May) }),
		changed(base, func(s *api.Spec) { s.On = nil }),
		changed(base, func(s *api.Spec) { s.May = nil }),
		{}, {In: 2}, {On: []api.Set{{}}}, {May: []api.Set{{}}}, {On: []api.Set{{}}, May: []api.Set{{}}},
	}
	for i, a := range l {
		for j, b := range l {
			if got := spec.Same(a, deep(b)); got != (i == j) {
				t.Errorf("Same(%v, %v) = %v", a, b, got)
			}
		}
	}
	if !spec.Same(api.Spec{On: []api.Set{}, May: []api.Set{}}, api.Spec{}) {
		t.Error("Same: nil and empty lists differ")
	}
	for _, s := range append(right(), wrong()...) {
		if !spec.Same(s, deep(s)) {
			t.Errorf("Same(%v, itself) = false", s)
		}
	}
}

// asked tests what the table of f requires.
func asked(t *testing.T, f form) {
	t.Helper()
	x := f.table()
	want, both := f.required()
	got, e := spec.Of(x)
	if both {
		if e != api.ErrBoth || !reflect.DeepEqual(got, api.Spec{}) {
			t.Fatalf("Of(%v) = %v, %d, not ErrBoth", f, got, e)
		}
		return
	}
	if e != api.OK || !reflect.DeepEqual(got, want) || !spec.Right(got) || !spec.Same(got, want) {
		t.Fatalf("Of(%v) = %v, %d, not %v", f, got, e, want)
	}
}

// TestSmallTables is about P4.1: all tables of a few lines, of each kind, with points that are one, zero, free, several of these, or none.
func TestSmallTables(t *testing.T) {
	for _, f := range small() {
		asked(t, f)
	}
}

// TestMixedTables is about P4.1: tables of all sizes, up to 8 inputs, 4 outputs and 64 lines.
func TestMixedTables(t *testing.T) {
	found, refused := 0, 0
	for _, f := range mixed() {
		asked(t, f)
		if _, e := spec.Of(f.table()); e == api.OK {
			found++
		} else {
			refused++
		}
	}
	if found < 1000 || refused < 100 {
		t.Errorf("%d tables are found right, and %d refused: too few to tell", found, refused)
	}
}

// TestKinds is about P4.1: one table, read as each kind.
func TestKinds(t *testing.T) {
	rows := []string{"100 1", "010 0", "-01 -"} // points 1, 2, and 4 and 5
	want := map[string]api.Set{"f": {2}, "fd": {2 + 16 + 32}, "fr": {255 - 4}, "fdr": {255 - 4}}
	for kind, may := range want {
		s, e := spec.Of(form{3, 1, kind, rows}.table())
		if e != api.OK || !spec.Same(s, api.Spec{In: 3, On: []api.Set{{2}}, May: []api.Set{may}}) {
			t.Errorf("Of, for %s: %v, %d", kind, s, e)
		}
	}
}

// TestOneAndZero is about P4.1: a point that is one and zero is refused for kinds with zeros, whatever the output, and only there.
func TestOneAndZero(t *testing.T) {
	for o := range 4 {
		other := strings.Repeat("-", o)
		rows := []string{"1- " + other + "1---"[:4-o], "-1 " + other + "0---"[:4-o]}
		for _, f := range []form{{2, 4, "fr", rows}, {2, 4, "fdr", rows}} {
			if s, e := spec.Of(f.table()); e != api.ErrBoth || !reflect.DeepEqual(s, api.Spec{}) {
				t.Errorf("Of(%v) = %v, %d", f, s, e)
			}
		}
		for _, f := range []form{{2, 4, "f", rows}, {2, 4, "fd", rows}} {
			if s, e := spec.Of(f.table()); e != api.OK || s.On[o] != (api.Set{10}) {
				t.Errorf("Of(%v) = %v, %d", f, s, e)
			}
		}
	}
	apart := []string{"1- 10", "-1 01"} // the zeros of one output are the ones of the other
	for _, kind := range []string{"fr", "fdr"} {
		if s, e := spec.Of(form{2, 2, kind, []string{"1- 10", "0- 01"}}.table()); e != api.OK || !spec.Same(s, api.Spec{In: 2, On: []api.Set{{10}, {5}}, May: []api.Set{{10}, {5}}}) {
			t.Errorf("Of, for %s: %v, %d", kind, s, e)
		}
		if _, e := spec.Of(form{2, 2, kind, apart}.table()); e != api.ErrBoth {
			t.Errorf("Of, for %s: %d", kind, e)
		}
	}
}

// TestFreeBeside is about P4.1: a free point that is a one must be on; one that is a zero may not be on, where there are zeros.
func TestFreeBeside(t *testing.T) {
	rows := []string{"1 1", "- -", "0 0"}
	for kind, may := range map[string]api.Set{"f": {2}, "fd": {3}, "fr": {2}, "fdr": {2}} {
		s, e := spec.Of(form{1, 1, kind, rows}.table())
		if e != api.OK || !spec.Same(s, api.Spec{In: 1, On: []api.Set{{2}}, May: []api.Set{may}}) {
			t.Errorf("Of, for %s: %v, %d", kind, s, e)
		}
	}
}

// TestNoRow is about P4.1: without lines nothing must be on, and all may be on, if that is for zeros to say.
func TestNoRow(t *testing.T) {
	for in := range 9 {
		for _, kind := range kinds {
			want := api.Spec{In: in, On: []api.Set{{}}, May: []api.Set{{}}}
			if kind == "fr" || kind == "fdr" {
				want.May[0] = pick(in, func(int) bool { return true })
			}
			if s, e := spec.Of(form{in, 1, kind, nil}.table()); e != api.OK || !spec.Same(s, want) {
				t.Errorf("Of, for %s, %d inputs and no line: %v, %d", kind, in, s, e)
			}
		}
	}
}

// TestWrongTables is about P4.1: each way for a table not to be valid, also if a point is on and off besides.
func TestWrongTables(t *testing.T) {
	base := form{2, 2, "fr", []string{"1- 1-", "-1 -0", "00 00"}}
	both := form{2, 2, "fr", []string{"1- 1-", "-1 00", "00 00"}}
	changes := []func(t *api.Table){
		func(t *api.Table) { t.Kind = 4 },
		func(t *api.Table) { t.Out = 1 },
		func(t *api.Table) { t.Out = 0 },
		func(t *api.Table) { t.Out = 5 },
		func(t *api.Table) { t.In = 1 },
		func(t *api.Table) { t.Lines[2].Outs[1] = 3 },
		func(t *api.Table) { t.Lines[0].Outs[0] = -1 },
		func(t *api.Table) { t.Lines[1].Outs = nil },
		func(t *api.Table) { t.Lines[2].Outs = append(t.Lines[2].Outs, 1) },
		func(t *api.Table) { t.Lines[2].Cube.Mask = 4 },
		func(t *api.Table) { t.Lines[0].Cube.Val = 3 },
		func(t *api.Table) { t.Lines = slices.Repeat(t.Lines[:1], 65) },
	}
	for _, n := range odd {
		changes = append(changes, func(t *api.Table) { t.Kind = n }, func(t *api.Table) { t.In = n }, func(t *api.Table) { t.Out = n })
	}
	for _, f := range []form{base, both} {
		asked(t, f)
		for _, change := range changes {
			x := f.table()
			change(&x)
			if s, e := spec.Of(x); e != api.ErrArg || !reflect.DeepEqual(s, api.Spec{}) {
				t.Errorf("Of(%+v) = %v, %d", x, s, e)
			}
		}
	}
	for _, x := range []api.Table{{}, {In: 9, Out: 1}, {Out: 5}, {In: -1, Out: 1}, {Lines: base.table().Lines}} {
		if s, e := spec.Of(x); e != api.ErrArg || !reflect.DeepEqual(s, api.Spec{}) {
			t.Errorf("Of(%+v) = %v, %d", x, s, e)
		}
	}
}

// TestOfMemory is about P0 (R3, R4): the table stays as it is, and no two lists share memory, spare capacity included.
func TestOfMemory(t *testing.T) {
	for _, f := range mixed() {
		x := f.table()
		one, e := spec.Of(x)
		two, _ := spec.Of(x)
		if !reflect.DeepEqual(x, f.table()) {
			t.Fatalf("Of changes its table: %+v", x)
		}
		if e != api.OK {
			continue
		}
		want := deep(two)
		scribble(one.On)
		if !slices.Equal(one.May, want.May) {
			t.Fatalf("Of(%v): On and May share memory", f)
		}
		scribble(one.May)
		if !spec.Same(two, want) || !reflect.DeepEqual(x, f.table()) {
			t.Fatalf("Of(%v) shares memory with another one, or with its table", f)
		}
	}
}

// scribble changes all of a list, spare capacity included.
func scribble(l []api.Set) {
	l = l[:cap(l)]
	for k := range l {
		l[k] = api.Set{7, 7, 7, 7}
	}
}

// TestExample is the chapter's.
func TestExample(t *testing.T) {
	s, e := spec.Of(form{2, 1, "fd", []string{"1- 1", "0- -"}}.table())
	if e != api.OK || !slices.Equal(set.List(s.On[0]), []int{1, 3}) || !slices.Equal(set.List(s.May[0]), []int{0, 1, 2, 3}) {
		t.Errorf("Of = %v, %d", s, e)
	}
}
