package cover_test

import (
	"fmt"
	"math"
	"slices"
	"strings"
	"testing"

	"drawknife/api"
	"drawknife/cover"
	"drawknife/cube"
)

// odd are numbers that are no numbers of inputs and no numbers of columns.
var odd = []int{-1, -2, -8, -64, -4000, 4001, 4096, 65535, 65536, 65537, math.MaxInt32, math.MinInt32, math.MaxInt, math.MaxInt - 1, math.MinInt, math.MinInt + 1}

// A told is a row that is told by the text of its cube.
type told struct {
	text string
	outs uint8
}

// An asked tells a spec point by point, and rows by their texts.
type asked struct {
	n, m int
	on   []uint8 // for each point the outputs that must be on
	may  []uint8 // for each point those that may be on, also if they need not
	rows []told
}

// of makes the cube of a text.
func of(t testing.TB, text string) api.Cube {
	t.Helper()
	c, e := cube.Parse(text)
	if e != api.OK {
		t.Fatalf("Parse(%q): %d", text, e)
	}
	return c
}

// row makes the row of a text like that of a table: a 1 is an output of the row.
func row(text string) told {
	literals, outs, _ := strings.Cut(text, " ")
	x := told{text: literals}
	for o := range len(outs) {
		x.outs += (outs[o] - '0') << o
	}
	return x
}

// contains tells by the text whether a point is in a cube.
func contains(text string, p int) bool {
	for i := range len(text) {
		if text[i] == '0' && p>>i%2 == 1 || text[i] == '1' && p>>i%2 == 0 {
			return false
		}
	}
	return true
}

// has tells whether a row gives an output at a point.
func (x told) has(p, o int) bool {
	return x.outs>>o%2 == 1 && contains(x.text, p)
}

// texts are those of all cubes of n inputs.
func texts(n int) []string {
	l := []string{""}
	for range n {
		var longer []string
		for _, s := range l {
			longer = append(longer, s+"0", s+"1", s+"-")
		}
		l = longer
	}
	return l
}

// sets are for each output the points that have it.
func sets(m int, at []uint8) []api.Set {
	l := make([]api.Set, m)
	for p, outs := range at {
		for o := range m {
			if outs>>o%2 == 1 {
				l[o][p/64] += 1 << (p % 64)
			}
		}
	}
	return l
}

// spec makes the spec.
func (a asked) spec() api.Spec {
	s := api.Spec{In: a.n, On: sets(a.m, a.on), May: sets(a.m, a.may)}
	for o := range a.m {
		for k := range s.May[o] {
			s.May[o][k] |= s.On[o][k]
		}
	}
	return s
}

// list makes the rows.
func (a asked) list(t testing.TB) []api.Row {
	t.Helper()
	var l []api.Row
	for _, x := range a.rows {
		l = append(l, api.Row{Cube: of(t, x.text), Outs: x.outs})
	}
	return l
}

// each calls what is told with the points and outputs that must be on.
func (a asked) each(tell func(p, o int)) {
	for p, outs := range a.on {
		for o := range a.m {
			if outs>>o%2 == 1 {
				tell(p, o)
			}
		}
	}
}

// padded are texts of lists that are in order as the lists are: the number of columns first, and all numbers of equal length.
func padded(l []int) string {
	s := fmt.Sprintf("%05d", len(l))
	for _, k := range l {
		s += fmt.Sprintf(" %05d", k)
	}
	return s
}

// lists are the rows of the covering, as padded texts.
func (a asked) lists() []string {
	var l []string
	a.each(func(p, o int) {
		var cols []int
		for k, x := range a.rows {
			if x.has(p, o) {
				cols = append(cols, k)
			}
		}
		l = append(l, padded(cols))
	})
	slices.Sort(l)
	return slices.Compact(l)
}

// solved tells point by point whether the rows with these indices give all that must be on.
func (a asked) solved(cols []int) bool {
	yes := true
	a.each(func(p, o int) {
		yes = yes && slices.ContainsFunc(cols, func(k int) bool { return a.rows[k].has(p, o) })
	})
	return yes
}

// within tells whether a row has an output, none that is not there, and no point that may not be on.
func (a asked) within(x told) bool {
	if x.outs == 0 || int(x.outs) >= 1<<a.m {
		return false
	}
	for p := range a.on {
		if contains(x.text, p) && x.outs&^(a.on[p]|a.may[p]) != 0 {
			return false
		}
	}
	return true
}

// pick are the indices whose bits are in a number.
func pick(bits int) []int {
	var l []int
	for k := 0; bits>>k > 0; k++ {
		if bits>>k%2 == 1 {
			l = append(l, k)
		}
	}
	return l
}

// made is what Make returns without an error.
func (a asked) made(t testing.TB) cover.Matrix {
	t.Helper()
	m, e := cover.Make(a.spec(), a.list(t))
	if e != api.OK {
		t.Fatalf("Make(%v): %d", a, e)
	}
	return m
}

// right checks what Make returns, and that it is valid.
func (a asked) right(t testing.TB) {
	t.Helper()
	m := a.made(t)
	var got []string
	for _, l := range m.Rows {
		got = append(got, padded(l))
	}
	if m.Cols != len(a.rows) || !slices.Equal(got, a.lists()) || !cover.Right(m) {
		t.Fatalf("Make(%v) = %v, not %q", a, m, a.lists())
	}
}

// refused checks that Make returns an error, and nothing else.
func refused(t testing.TB, s api.Spec, l []api.Row, want api.Errno) {
	t.Helper()
	if m, e := cover.Make(s, l); e != want || m.Cols != 0 || len(m.Rows) != 0 {
		t.Fatalf("Make(%v) of %d rows = %v, %d, not %d", s, len(l), m, e, want)
	}
}

// random returns a function whose next number is below n.
func random(seed uint64) func(n int) int {
	return func(n int) int {
		seed = seed*6364136223846793005 + 1442695040888963407
		return int(seed>>33) % n
	}
}

// full are the outputs at each point if all of them are there.
func full(n, m int) []uint8 {
	return slices.Repeat([]uint8{1<<m - 1}, 1<<n)
}

// small are all lists of up to so many of these rows, with all that may be on at points in one of some ways.
func small(n, m, most int, outs []uint8, test func(a asked)) {
	var all []told
	for _, s := range texts(n) {
		for _, x := range outs {
			all = append(all, told{s, x})
		}
	}
	var longer func(l []told)
	longer = func(l []told) {
		for on := range 1 << (m << n) {
			a := asked{n: n, m: m, may: full(n, m), rows: l}
			for p := range 1 << n {
				a.on = append(a.on, uint8(on>>(p*m)%(1<<m)))
			}
			test(a)
		}
		if len(l) < most {
			for _, x := range all {
				longer(append(slices.Clone(l), x))
			}
		}
	}
	longer(nil)
}

// mixed are specs of n inputs and m outputs, which must be on nowhere, everywhere, at one point, and at points at random, with so many rows at random, some of which occur twice.
func mixed(n, m, many int, next func(n int) int) []asked {
	var l []asked
	some := func(literals int) told {
		s := []byte(strings.Repeat("-", n))
		for i := range s {
			if next(4) < literals {
				s[i] = '0' + byte(next(2))
			}
		}
		return told{string(s), uint8(next(1 << m))}
	}
	one := next(1 << n)
	for k, at := range []func(p int) int{
		func(int) int { return 0 },
		func(int) int { return 15 },
		func(p int) int { return 15 * (1 - min(p^one, 1)) },
		func(p int) int { return 1 << (p % 4) },
		func(int) int { return next(16) },
		func(int) int { return next(16) & next(16) },
		func(int) int { return next(16) | next(16) },
	} {
		a := asked{n: n, m: m}
		for p := range 1 << n {
			a.on = append(a.on, uint8(at(p)%(1<<m)))
			a.may = append(a.may, uint8(next(1<<m)))
		}
		for range many {
			x := some(k % 5)
			if len(a.rows) > 0 && next(5) == 0 {
				x = a.rows[next(len(a.rows))]
			}
			a.rows = append(a.rows, x)
		}
		l = append(l, a)
	}
	return l
}

// asks calls what is tested with all small ones, and with mixed ones of up to eight inputs, four outputs and so many rows.
func asks(test func(a asked)) {
	small(0, 1, 3, []uint8{0, 1, 2, 255}, test)
	small(0, 2, 3, []uint8{0, 1, 2, 3, 252, 253}, test)
	small(0, 4, 2, []uint8{0, 1, 2, 3, 4, 7, 8, 13, 15, 16, 240}, test)
	small(1, 1, 3, []uint8{0, 1, 6, 7}, test)
	small(1, 2, 3, []uint8{0, 1, 2, 3}, test)
	small(2, 1, 3, []uint8{1, 2}, test)
	small(2, 2, 2, []uint8{1, 2, 3}, test)
	next := random(13)
	for n := range 9 {
		for m := 1; m <= 4; m++ {
			for _, many := range []int{0, 1, 2, 5, 12, 30, 64, 120} {
				for _, a := range mixed(n, m, many, next) {
					test(a)
				}
			}
		}
	}
}
