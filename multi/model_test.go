package multi_test

import (
	"math"
	"slices"
	"strings"
	"testing"

	"drawknife/api"
	"drawknife/cube"
	"drawknife/multi"
)

// odd are numbers that are no numbers of inputs.
var odd = []int{-1, -2, -8, -64, 9, 10, 16, 64, 255, 256, 257, math.MaxInt32, math.MinInt32, math.MaxInt, math.MaxInt - 1, math.MinInt, math.MinInt + 1}

// A told is a cube that is told by its text.
type told struct {
	text   string
	cube   api.Cube
	points []int
	wider  []int // the places in the world of the cube without one of its literals, for the inputs from 0 on
}

// A world has all cubes of n inputs, in increasing order.
type world struct {
	n     int
	cubes []told
	place map[string]int
}

// An asked tells a spec point by point.
type asked struct {
	w    world
	m    int     // the number of outputs
	at   []uint8 // for each point the outputs that may be on
	fits []uint8 // for each cube of the world the outputs that may be on at all its points
}

// of makes the cube of a text.
func of(t testing.TB, text string) api.Cube {
	t.Helper()
	c, e := cube.Parse(text)
	if e != api.OK {
		t.Fatalf("Parse(%q): %d", text, e)
	}
	return c
}

// row makes the row of a text like that of a table: a 1 is an output of the row.
func row(t testing.TB, text string) api.Row {
	t.Helper()
	literals, outs, _ := strings.Cut(text, " ")
	return api.Row{Cube: of(t, literals), Outs: of(t, outs).Val}
}

// rowsOf makes the rows of texts.
func rowsOf(t testing.TB, texts []string) []api.Row {
	t.Helper()
	var l []api.Row
	for _, text := range texts {
		l = append(l, row(t, text))
	}
	return l
}

// contains tells by the text whether a point is in a cube.
func contains(text string, p int) bool {
	for i := range len(text) {
		if text[i] == '0' && p>>i%2 == 1 || text[i] == '1' && p>>i%2 == 0 {
			return false
		}
	}
	return true
}

// pick are the points of n inputs that are in a cube.
func pick(n int, text string) []int {
	var l []int
	for p := range 1 << n {
		if contains(text, p) {
			l = append(l, p)
		}
	}
	return l
}

// holds tells by the texts whether cube a contains cube b, of the same number of inputs.
func holds(a, b string) bool {
	for i := range len(a) {
		if a[i] != '-' && a[i] != b[i] {
			return false
		}
	}
	return true
}

// number is greater for a row that is later in order.
func number(x api.Row) int {
	return 65536*int(x.Outs) + 256*int(x.Cube.Mask) + int(x.Cube.Val)
}

// worldOf makes the world of n inputs: by Mask, and for the same Mask by Val, as cubes are ordered.
func worldOf(t testing.TB, n int) world {
	w := world{n: n, place: map[string]int{}}
	for mask := range 1 << n {
		for val := range 1 << n {
			c := api.Cube{Mask: uint8(mask), Val: uint8(val)}
			if !cube.Right(c, n) {
				continue
			}
			text, e := cube.Text(c, n)
			if e != api.OK {
				t.Fatalf("Text(%v, %d): %d", c, n, e)
			}
			w.place[text] = len(w.cubes)
			w.cubes = append(w.cubes, told{text: text, cube: c, points: pick(n, text)})
		}
	}
	for k, x := range w.cubes {
		for i := range n {
			if x.text[i] != '-' {
				w.cubes[k].wider = append(w.cubes[k].wider, w.place[x.text[:i]+"-"+x.text[i+1:]])
			}
		}
	}
	return w
}

// worlds are those of up to so many inputs, each at its place.
func worlds(t testing.TB, most int) []world {
	var l []world
	for n := range most + 1 {
		l = append(l, worldOf(t, n))
	}
	return l
}

// ask tells the spec of m outputs of which those of at(p) may be on at point p.
func (w world) ask(m int, at func(p int) int) asked {
	a := asked{w: w, m: m}
	for p := range 1 << w.n {
		a.at = append(a.at, uint8(at(p)))
	}
	for _, c := range w.cubes {
		outs := uint8(1<<m - 1)
		for _, p := range c.points {
			outs &= a.at[p]
		}
		a.fits = append(a.fits, outs)
	}
	return a
}

// set are the points where output o may be on.
func (a asked) set(o int) api.Set {
	var s api.Set
	for p, outs := range a.at {
		if outs>>o%2 == 1 {
			s[p/64] += 1 << (p % 64)
		}
	}
	return s
}

// spec makes the spec in which nothing must be on.
func (a asked) spec() api.Spec {
	s := api.Spec{In: a.w.n, On: make([]api.Set, a.m)}
	for o := range a.m {
		s.May = append(s.May, a.set(o))
	}
	return s
}

// within tells whether the cube at place k is within for these outputs.
func (a asked) within(k int, outs uint8) bool {
	return outs > 0 && outs&^a.fits[k] == 0
}

// prime tells whether a row within has no output more, and no literal less.
func (a asked) prime(k int, outs uint8) bool {
	return a.within(k, outs) && outs == a.fits[k] && !slices.ContainsFunc(a.w.cubes[k].wider, func(other int) bool { return a.within(other, outs) })
}

// single tells whether no other row within contains this one, by a look at all there are.
func (a asked) single(k int, outs uint8) bool {
	for other, c := range a.w.cubes {
		for more := range uint8(1) << a.m {
			if (other != k || more != outs) && a.within(other, more) && outs&^more == 0 && holds(c.text, a.w.cubes[k].text) {
				return false
			}
		}
	}
	return a.within(k, outs)
}

// rows are all prime rows, in increasing order.
func (a asked) rows() []api.Row {
	var l []api.Row
	for k, c := range a.w.cubes {
		if outs := a.fits[k]; a.prime(k, outs) {
			l = append(l, api.Row{Cube: c.cube, Outs: outs})
		}
	}
	slices.SortFunc(l, func(x, y api.Row) int { return number(x) - number(y) })
	return l
}

// grown is what Grow returns for a row within.
func (a asked) grown(k int, outs uint8) api.Row {
	for i := range a.w.n {
		text := a.w.cubes[k].text
		if other := a.w.place[text[:i]+"-"+text[i+1:]]; a.within(other, outs) {
			k = other
		}
	}
	return api.Row{Cube: a.w.cubes[k].cube, Outs: a.fits[k]}
}

// each calls what is tested with the places of cubes and Outs: all rows that there are with up to three inputs, otherwise cubes with some Outs: all of up to six inputs, a third of more.
func (a asked) each(test func(k int, outs uint8)) {
	for k := range a.w.cubes {
		if a.w.n > 6 && k%3 != a.m%3 {
			continue
		}
		if a.w.n <= 3 {
			for outs := range uint8(32) {
				test(k, outs)
			}
			test(k, 128+uint8(k))
			continue
		}
		test(k, a.fits[k])
		test(k, uint8(k%16))
	}
}

// random returns a function whose next number is below n.
func random(seed uint64) func(n int) int {
	return func(n int) int {
		seed = seed*6364136223846793005 + 1442695040888963407
		return int(seed>>33) % n
	}
}

// ones is the number of inputs that are 1 at point p.
func ones(p int) int {
	many := 0
	for i := range 8 {
		many += p >> i % 2
	}
	return many
}

// bandOuts are the outputs that may be on where there are so many ones: output o from least[o] to most[o].
func bandOuts(least, most []int, p int) int {
	outs := 0
	for o := range least {
		if ones(p) >= least[o] && ones(p) <= most[o] {
			outs += 1 << o
		}
	}
	return outs
}

// mixed are specs of m outputs that may be on nowhere, everywhere, at one point, at all but one, for so many ones, for an odd number of them, for some rows, and at points at random.
func (w world) mixed(m int) []asked {
	next := random(uint64(100 + 10*w.n + m))
	full, one := 1<<m-1, next(1<<w.n)
	chosen := func(yes bool, outs int) int {
		if yes {
			return outs
		}
		return 0
	}
	l := []asked{
		w.ask(m, func(int) int { return 0 }),
		w.ask(m, func(int) int { return full }),
		w.ask(m, func(int) int { return 1 }),
		w.ask(m, func(int) int { return full &^ 1 }),
		w.ask(m, func(p int) int { return chosen(p == one, full) }),
		w.ask(m, func(p int) int { return chosen(p != one, full) }),
		w.ask(m, func(p int) int { return 1 << (p % m) }),
		w.ask(m, func(p int) int { return full &^ (1 << (p % m)) }),
		w.ask(m, func(p int) int { return chosen(p == one, 1) | chosen(p != one, full&^1) }),
		w.ask(m, func(p int) int { return chosen(ones(p)%2 == 1, full&5) | chosen(ones(p)%2 == 0, full&10) }),
		w.ask(m, func(p int) int { return full & bandOuts([]int{1, 2, 0, 3}, []int{w.n - 2, w.n - 1, w.n - 3, w.n}, p) }),
	}
	for range 2 {
		l = append(l, w.someRows(m, next, 3+2*w.n), w.ask(m, func(int) int { return next(full + 1) }), w.ask(m, func(int) int { return next(full+1) | next(full+1) | next(full+1) }))
	}
	return l
}

// someRows is the spec whose outputs may be on where some rows are, so that there are wide ones within it.
func (w world) someRows(m int, next func(n int) int, many int) asked {
	at := make([]int, 1<<w.n)
	for range many {
		outs := next(1 << m)
		for _, p := range w.cubes[next(len(w.cubes))].points {
			at[p] |= outs
		}
	}
	return w.ask(m, func(p int) int { return at[p] })
}

// small are all specs of up to four outputs for which the outputs at all points together are at most twelve bits.
func small(l []world) []asked {
	var specs []asked
	for _, w := range l {
		for m := 1; m <= 4 && m<<w.n <= 12; m++ {
			for all := range 1 << (m << w.n) {
				specs = append(specs, w.ask(m, func(p int) int { return all >> (p * m) % (1 << m) }))
			}
		}
	}
	return specs
}

// specs calls what is tested with all small specs, and with mixed ones of up to eight inputs and four outputs.
func specs(t testing.TB, test func(a asked)) {
	l := worlds(t, 8)
	for _, a := range small(l) {
		test(a)
	}
	for _, w := range l {
		for m := 1; m <= 4; m++ {
			for _, a := range w.mixed(m) {
				test(a)
			}
		}
	}
}

// hasRows checks what All returns.
func hasRows(t *testing.T, s api.Spec, want []api.Row) {
	t.Helper()
	if l, e := multi.All(s); e != api.OK || !slices.Equal(l, want) {
		t.Fatalf("All(%v) = %v, %d, not %v", s, l, e, want)
	}
}

// outside checks that x is neither within s nor prime, and does not grow.
func outside(t *testing.T, s api.Spec, x api.Row) {
	t.Helper()
	if multi.Within(s, x) {
		t.Fatalf("Within(%v, %v)", s, x)
	}
	if multi.Prime(s, x) {
		t.Fatalf("Prime(%v, %v)", s, x)
	}
	if got, e := multi.Grow(s, x); e != api.ErrArg || got != (api.Row{}) {
		t.Fatalf("Grow(%v, %v) = %v, %d", s, x, got, e)
	}
}
