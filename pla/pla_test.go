package pla_test

import (
	"fmt"
	"math"
	"reflect"
	"slices"
	"strings"
	"testing"

	"drawknife/api"
	"drawknife/pla"
)

// A form says a table by its words, so that what is expected does not rest on Mask, Val and numbers.
type form struct {
	in, out int
	kind    string
	rows    []string
}

func (f form) text() string {
	return strings.Join(f.lines(), "\n") + "\n"
}

func (f form) lines() []string {
	l := []string{fmt.Sprintf(".i %d", f.in), fmt.Sprintf(".o %d", f.out), ".type " + f.kind, fmt.Sprintf(".p %d", len(f.rows))}
	return append(append(l, f.rows...), ".e")
}

func (f form) table() api.Table {
	t := api.Table{Kind: slices.Index([]string{"f", "fd", "fr", "fdr"}, f.kind), In: f.in, Out: f.out}
	for _, row := range f.rows {
		t.Lines = append(t.Lines, line(row))
	}
	return t
}

// line makes the line of a row's text by adding up powers of two.
func line(row string) api.Line {
	literals, outs, _ := strings.Cut(row, " ")
	var l api.Line
	power := 1
	for i := range len(literals) {
		if literals[i] != '-' {
			l.Cube.Mask += uint8(power)
		}
		if literals[i] == '1' {
			l.Cube.Val += uint8(power)
		}
		power *= 2
	}
	for i := range len(outs) {
		l.Outs = append(l.Outs, map[byte]int{'0': 0, '1': 1, '-': 2}[outs[i]])
	}
	return l
}

// forms are tables of each kind, of all numbers of inputs and outputs, without lines, with one, some, and as many as there may be.
func forms() []form {
	var l []form
	x := uint32(1)
	byteOf := func() byte {
		x = x*1664525 + 1013904223
		return "01-"[x>>24%3]
	}
	word := func(n int) string {
		var w strings.Builder
		for range n {
			w.WriteByte(byteOf())
		}
		return w.String()
	}
	for _, kind := range []string{"f", "fd", "fr", "fdr"} {
		for in := range 9 {
			for out := 1; out <= 4; out++ {
				for _, n := range []int{0, 1, 2, 5, 63, 64} {
					f := form{in: in, out: out, kind: kind}
					for range n {
						f.rows = append(f.rows, word(in)+" "+word(out))
					}
					l = append(l, f)
				}
			}
		}
	}
	return l
}

// chosen are a few of the forms, for tests that change each in many ways.
func chosen() []form {
	return []form{
		{0, 1, "f", nil},
		{0, 4, "fr", []string{" 01-1", " ----"}},
		{1, 1, "fd", []string{"1 1"}},
		{2, 1, "fdr", []string{"1- 1", "0- -", "-- 0"}},
		{3, 2, "fd", []string{"1-0 1-", "--- 01"}},
		{5, 1, "fr", []string{"----- 1", "01-10 0"}},
		{8, 4, "f", []string{"01-01-01 01-1", "-------- 1111", "11111111 ----"}},
	}
}

func copied(t api.Table) api.Table {
	t.Lines = slices.Clone(t.Lines)
	for k := range t.Lines {
		t.Lines[k].Outs = slices.Clone(t.Lines[k].Outs)
	}
	return t
}

// changed is t after a change of a copy of it.
func changed(t api.Table, change func(t *api.Table)) api.Table {
	t = copied(t)
	change(&t)
	return t
}

// wrong are tables each of which is not valid in one way.
func wrong() []api.Table {
	base := form{4, 3, "fdr", []string{"01-- 01-", "---- 111", "1111 000"}}.table()
	full := form{1, 1, "f", slices.Repeat([]string{"1 1"}, 64)}.table()
	l := []api.Table{
		{}, {Kind: api.FDR, In: 8}, {Lines: base.Lines},
		changed(full, func(t *api.Table) { t.Lines = append(t.Lines, line("0 0")) }),
		changed(full, func(t *api.Table) { t.Lines = append(t.Lines, t.Lines...) }),
		changed(full, func(t *api.Table) { t.Lines[63].Outs[0] = 3 }),
		changed(full, func(t *api.Table) { t.Lines[63].Outs = nil }),
		changed(full, func(t *api.Table) { t.Lines[63].Cube.Mask = 2 }),
		{Kind: api.F, In: 9, Out: 1}, {Kind: api.F, In: 9, Out: 1, Lines: []api.Line{{Outs: []int{1}}}},
		{Kind: api.F, In: 1, Out: 5, Lines: []api.Line{{Outs: []int{1, 1, 1, 1, 1}}}},
	}
	for _, n := range []int{-1, -2, 9, 64, 256, math.MaxInt32, math.MinInt32, math.MaxInt, math.MinInt} {
		l = append(l, changed(base, func(t *api.Table) { t.Kind = n }), changed(base, func(t *api.Table) { t.In = n }), changed(base, func(t *api.Table) { t.Out = n }))
		l = append(l, api.Table{Kind: n, Out: 1}, api.Table{In: n, Out: 1}, api.Table{Out: n})
		for k := range base.Lines {
			for o := range 3 {
				l = append(l, changed(base, func(t *api.Table) { t.Lines[k].Outs[o] = n }))
			}
		}
	}
	l = append(l, changed(base, func(t *api.Table) { t.Kind = 4 }), api.Table{Kind: 4, Out: 1}, changed(base, func(t *api.Table) { t.Out = 0 }))
	l = append(l, changed(base, func(t *api.Table) { t.Out = 2 }), changed(base, func(t *api.Table) { t.Out = 4 }), changed(base, func(t *api.Table) { t.In = 1 }))
	for k := range base.Lines {
		l = append(l,
			changed(base, func(t *api.Table) { t.Lines[k].Outs[2] = 3 }),
			changed(base, func(t *api.Table) { t.Lines[k].Outs = nil }),
			changed(base, func(t *api.Table) { t.Lines[k].Outs = t.Lines[k].Outs[:2] }),
			changed(base, func(t *api.Table) { t.Lines[k].Outs = append(t.Lines[k].Outs, 1) }),
			changed(base, func(t *api.Table) { t.Lines[k].Cube = api.Cube{Mask: 16} }),
			changed(base, func(t *api.Table) { t.Lines[k].Cube = api.Cube{Mask: 128, Val: 128} }),
			changed(base, func(t *api.Table) { t.Lines[k].Cube = api.Cube{Mask: 1, Val: 2} }),
			changed(base, func(t *api.Table) { t.Lines[k].Cube = api.Cube{Val: 1} }),
		)
	}
	return l
}

// TestRightAndPrint is about P3.1: tables of all sizes.
func TestRightAndPrint(t *testing.T) {
	for _, f := range forms() {
		x := f.table()
		if !pla.Right(x) {
			t.Errorf("Right(%+v) = false", x)
		}
		if s, e := pla.Print(x); e != api.OK || s != f.text() {
			t.Errorf("Print(%+v) = %q, %d", x, s, e)
		}
	}
}

// TestWrongTables is about P3.1: each way not to be valid, and nothing beside the error.
func TestWrongTables(t *testing.T) {
	for _, x := range wrong() {
		if pla.Right(x) {
			t.Errorf("Right(%+v)", x)
		}
		if s, e := pla.Print(x); e != api.ErrArg || s != "" {
			t.Errorf("Print(%+v) = %q, %d", x, s, e)
		}
	}
}

// TestOneByOne is about P3.1: of all values that an output or a kind may have, and none beside.
func TestOneByOne(t *testing.T) {
	for n := -3; n < 7; n++ {
		if got := pla.Right(api.Table{Kind: n, Out: 1}); got != (n >= 0 && n <= 3) {
			t.Errorf("Right, for kind %d: %v", n, got)
		}
		if got := pla.Right(api.Table{Out: 1, Lines: []api.Line{{Outs: []int{n}}}}); got != (n >= 0 && n <= 2) {
			t.Errorf("Right, for output %d: %v", n, got)
		}
	}
	for n := -3; n < 12; n++ {
		if got := pla.Right(api.Table{In: n, Out: 1}); got != (n >= 0 && n <= 8) {
			t.Errorf("Right, for %d inputs: %v", n, got)
		}
		if got := pla.Right(api.Table{In: 1, Out: n}); got != (n >= 1 && n <= 4) {
			t.Errorf("Right, for %d outputs: %v", n, got)
		}
	}
	for n := range 70 {
		x := api.Table{Out: 1, Lines: slices.Repeat([]api.Line{{Outs: []int{1}}}, n)}
		if got := pla.Right(x); got != (n <= 64) {
			t.Errorf("Right, for %d lines: %v", n, got)
		}
	}
}

// TestSame is about P3.1: tables that differ in one thing, valid or not.
func TestSame(t *testing.T) {
	base := form{3, 2, "fd", []string{"1-0 1-", "--- 01"}}.table()
	l := []api.Table{
		base,
		changed(base, func(t *api.Table) { t.Kind = api.F }),
		changed(base, func(t *api.Table) { t.Kind = -1 }),
		changed(base, func(t *api.Table) { t.In = 4 }),
		changed(base, func(t *api.Table) { t.Out = 3 }),
		changed(base, func(t *api.Table) { t.Lines = t.Lines[:1] }),
		changed(base, func(t *api.Table) { t.Lines = t.Lines[1:] }),
		changed(base, func(t *api.Table) { t.Lines = nil }),
		changed(base, func(t *api.Table) { t.Lines = append(t.Lines, t.Lines[1]) }),
		changed(base, func(t *api.Table) { slices.Reverse(t.Lines) }),
		changed(base, func(t *api.Table) { t.Lines[0].Cube.Val = 5 }),
		changed(base, func(t *api.Table) { t.Lines[0].Cube.Mask = 1 }),
		changed(base, func(t *api.Table) { t.Lines[1].Cube.Val = 1 }),
		changed(base, func(t *api.Table) { t.Lines[1].Cube.Mask = 1 }),
		changed(base, func(t *api.Table) { t.Lines[0].Outs[0] = 0 }),
		changed(base, func(t *api.Table) { t.Lines[1].Outs[1] = 2 }),
		changed(base, func(t *api.Table) { t.Lines[1].Outs[1] = -1 }),
		changed(base, func(t *api.Table) { t.Lines[1].Outs = t.Lines[1].Outs[:1] }),
		changed(base, func(t *api.Table) { t.Lines[1].Outs = append(t.Lines[1].Outs, 0) }),
		changed(base, func(t *api.Table) { t.Lines[1].Outs = nil }),
		{}, {Kind: 1}, {In: 1}, {Out: 1}, {Lines: []api.Line{{}}}, {Lines: []api.Line{{}, {}}},
	}
	for i, a := range l {
		for j, b := range l {
			if got := pla.Same(a, copied(b)); got != (i == j) {
				t.Errorf("Same(%+v, %+v) = %v", a, b, got)
			}
		}
	}
	if !pla.Same(api.Table{Lines: []api.Line{}}, api.Table{}) || !pla.Same(api.Table{Lines: []api.Line{{Outs: []int{}}}}, api.Table{Lines: []api.Line{{}}}) {
		t.Error("Same: nil and empty lists differ")
	}
	for _, x := range wrong() {
		if !pla.Same(x, copied(x)) {
			t.Errorf("Same(%+v, itself) = false", x)
		}
	}
}

// TestThereAndBack is about P3.3: tables printed and parsed, and texts parsed, printed and parsed.
func TestThereAndBack(t *testing.T) {
	for _, f := range forms() {
		s, _ := pla.Print(f.table())
		if x, at, e := pla.Parse(s); e != api.OK || at != 0 || !pla.Same(x, f.table()) {
			t.Errorf("Parse(%q) = %+v, %d, %d", s, x, at, e)
		}
	}
	for _, f := range chosen() {
		for _, s := range shorter(f) {
			x, _, _ := pla.Parse(s)
			u, e := pla.Print(x)
			y, at, g := pla.Parse(u)
			if e != api.OK || g != api.OK || at != 0 || !pla.Same(x, y) {
				t.Errorf("Print(Parse(%q)) = %q, %d, which is parsed to %+v, %d, %d", s, u, e, y, at, g)
			}
		}
	}
}

// TestMemory is about P0 (R3): arguments stay as they are, and results have nothing in common with one another.
func TestMemory(t *testing.T) {
	for _, f := range forms() {
		x, y := f.table(), f.table()
		for k := range y.Lines {
			y.Lines[k].Outs = append(make([]int, 0, 9), y.Lines[k].Outs...)
		}
		before := copied(y)
		pla.Right(y)
		s, _ := pla.Print(y)
		pla.Same(x, y)
		if !reflect.DeepEqual(y, before) {
			t.Fatalf("%+v became %+v", before, y)
		}
		one, _, _ := pla.Parse(s)
		two, _, _ := pla.Parse(s)
		scribble(&one)
		if !pla.Same(two, x) {
			t.Fatalf("Parse(%q) = %+v, after a change of another result", s, two)
		}
	}
}

// TestOwnOuts is about P0 (R3): no line shares its outputs with another one, spare capacity included.
func TestOwnOuts(t *testing.T) {
	f := form{2, 3, "fd", []string{"1- 1-0", "0- 1-0", "-- 1-0"}}
	x, _, _ := pla.Parse(f.text())
	for k := range x.Lines {
		want := copied(x)
		outs := x.Lines[k].Outs
		full := outs[:cap(outs)]
		for i := range full {
			full[i] = 7
		}
		want.Lines[k].Outs = []int{7, 7, 7}
		if !pla.Same(x, want) {
			t.Errorf("a change of line %d makes %+v", k, x)
		}
	}
}

// scribble changes all that a table refers to, spare capacity included.
func scribble(t *api.Table) {
	t.Lines = t.Lines[:cap(t.Lines)]
	for k := range t.Lines {
		l := &t.Lines[k]
		l.Cube = api.Cube{Mask: 255, Val: 255}
		l.Outs = l.Outs[:cap(l.Outs)]
		for i := range l.Outs {
			l.Outs[i] = 9
		}
	}
}
