package tagged_test

import (
	"math"
	"slices"
	"testing"

	"drawknife/api"
	"drawknife/cube"
	"drawknife/tagged"
	"drawknife/zdd"
)

// odd are numbers that are no numbers of inputs.
var odd = []int{-1, -2, -8, -64, 9, 10, 16, 64, 255, 256, 257, math.MaxInt32, math.MinInt32, math.MaxInt, math.MaxInt - 1, math.MinInt, math.MinInt + 1}

// many is the number of nodes with which a call must not fail in a new diagram, if its set has up to setIn inputs, or its spec up to specIn.
const (
	many   = 20000
	setIn  = 6
	specIn = 4
)

// A told is a cube that is told by its text.
type told struct {
	text   string
	cube   api.Cube
	points []int
	wider  []int // the places in the world of the cube without one of its literals
}

// A world has all cubes of n inputs.
type world struct {
	n     int
	cubes []told
}

// An asked tells a spec point by point.
type asked struct {
	w    world
	m    int   // the number of outputs
	at   []int // for each point the outputs that may be on
	fits []int // for each cube of the world the outputs that may be on at all its points
}

// parse makes the cube of a text.
func parse(t testing.TB, text string) api.Cube {
	t.Helper()
	c, e := cube.Parse(text)
	if e != api.OK {
		t.Fatalf("Parse(%q): %d", text, e)
	}
	return c
}

// member tells the member of a cube and outputs by sums, so that it shares no mistake with shifts.
func member(text string, outs int) int {
	m, of := 0, 1
	for _, r := range text {
		switch r {
		case '0':
			m += of
		case '1':
			m += 2 * of
		}
		of *= 4
	}
	return m + 65536*outs
}

// texts are those of all cubes of n inputs.
func texts(n int) []string {
	l := []string{""}
	for range n {
		var longer []string
		for _, text := range l {
			longer = append(longer, text+"-", text+"0", text+"1")
		}
		l = longer
	}
	return l
}

// contains tells by the text whether a point is in a cube.
func contains(text string, p int) bool {
	for i := range len(text) {
		if text[i] == '0' && p>>i%2 == 1 || text[i] == '1' && p>>i%2 == 0 {
			return false
		}
	}
	return true
}

// worldOf makes the world of n inputs.
func worldOf(t testing.TB, n int) world {
	t.Helper()
	w, place := world{n: n}, map[string]int{}
	for k, text := range texts(n) {
		c := told{text: text, cube: parse(t, text)}
		for p := range 1 << n {
			if contains(text, p) {
				c.points = append(c.points, p)
			}
		}
		w.cubes = append(w.cubes, c)
		place[text] = k
	}
	for k, c := range w.cubes {
		for i := range n {
			if c.text[i] != '-' {
				w.cubes[k].wider = append(w.cubes[k].wider, place[c.text[:i]+"-"+c.text[i+1:]])
			}
		}
	}
	return w
}

// worlds are those of up to so many inputs, each at its place.
func worlds(t testing.TB, most int) []world {
	t.Helper()
	var l []world
	for n := range most + 1 {
		l = append(l, worldOf(t, n))
	}
	return l
}

// ask tells the spec of m outputs of which those of at(p) may be on at point p.
func (w world) ask(m int, at func(p int) int) asked {
	a := asked{w: w, m: m}
	for p := range 1 << w.n {
		a.at = append(a.at, at(p))
	}
	for _, c := range w.cubes {
		outs := 1<<m - 1
		for _, p := range c.points {
			outs &= a.at[p]
		}
		a.fits = append(a.fits, outs)
	}
	return a
}

// set are the points where output o may be on.
func (a asked) set(o int) api.Set {
	var s api.Set
	for p, outs := range a.at {
		if outs>>o%2 == 1 {
			s[p/64] += 1 << (p % 64)
		}
	}
	return s
}

// spec makes the spec in which nothing must be on.
func (a asked) spec() api.Spec {
	s := api.Spec{In: a.w.n, On: make([]api.Set, a.m)}
	for o := range a.m {
		s.May = append(s.May, a.set(o))
	}
	return s
}

// primes are the members of the cubes that are prime for output o, as rows without outputs.
func (a asked) primes(o int) []int {
	return a.pick(func(k int) bool {
		within := func(k int) bool { return a.fits[k]>>o%2 == 1 }
		return within(k) && !slices.ContainsFunc(a.w.cubes[k].wider, within)
	}, func(int) int { return 0 })
}

// rows are the members of the prime rows: each has all outputs that its cube can have, and without a literal it could not have all of them.
func (a asked) rows() []int {
	return a.pick(func(k int) bool {
		all := func(other int) bool { return a.fits[other] == a.fits[k] }
		return a.fits[k] > 0 && !slices.ContainsFunc(a.w.cubes[k].wider, all)
	}, func(k int) int { return a.fits[k] })
}

// pick are the members of the cubes for which is is true, with these outputs, in increasing order.
func (a asked) pick(is func(k int) bool, outs func(k int) int) []int {
	var l []int
	for k, c := range a.w.cubes {
		if is(k) {
			l = append(l, member(c.text, outs(k)))
		}
	}
	slices.Sort(l)
	return l
}

// random returns a function whose next number is below n.
func random(seed uint64) func(n int) int {
	return func(n int) int {
		seed = seed*6364136223846793005 + 1442695040888963407
		return int(seed>>33) % n
	}
}

// ones is the number of inputs that are 1 at point p.
func ones(p int) int {
	sum := 0
	for i := range 8 {
		sum += p >> i % 2
	}
	return sum
}

// band are the outputs that may be on where there are so many ones: output o from least[o] to most[o].
func band(least, most []int, p int) int {
	outs := 0
	for o := range least {
		if ones(p) >= least[o] && ones(p) <= most[o] {
			outs += 1 << o
		}
	}
	return outs
}

// mixed are specs of m outputs that may be on nowhere, everywhere, at one point, at all but one, for so many ones, for an odd number of them, for some rows, and at points at random.
func (w world) mixed(m int) []asked {
	next := random(uint64(200 + 10*w.n + m))
	full, one := 1<<m-1, next(1<<w.n)
	chosen := func(yes bool, outs int) int {
		if yes {
			return outs
		}
		return 0
	}
	l := []asked{
		w.ask(m, func(int) int { return 0 }),
		w.ask(m, func(int) int { return full }),
		w.ask(m, func(int) int { return 1 }),
		w.ask(m, func(int) int { return full &^ 1 }),
		w.ask(m, func(p int) int { return chosen(p == one, full) }),
		w.ask(m, func(p int) int { return chosen(p != one, full) }),
		w.ask(m, func(p int) int { return 1 << (p % m) }),
		w.ask(m, func(p int) int { return full &^ (1 << (p % m)) }),
		w.ask(m, func(p int) int { return chosen(p == one, 1) | chosen(p != one, full&^1) }),
		w.ask(m, func(p int) int { return chosen(ones(p)%2 == 1, full&5) | chosen(ones(p)%2 == 0, full&10) }),
		w.ask(m, func(p int) int { return full & band([]int{1, 2, 0, 3}, []int{w.n - 2, w.n - 1, w.n - 3, w.n}, p) }),
	}
	for range 2 {
		l = append(l, w.someRows(m, next, 3+2*w.n), w.ask(m, func(int) int { return next(full + 1) }), w.ask(m, func(int) int { return next(full+1) | next(full+1) | next(full+1) }))
	}
	return l
}

// someRows is the spec whose outputs may be on where some rows are, so that there are wide ones within it.
func (w world) someRows(m int, next func(n int) int, rows int) asked {
	at := make([]int, 1<<w.n)
	for range rows {
		outs := next(1 << m)
		for _, p := range w.cubes[next(len(w.cubes))].points {
			at[p] |= outs
		}
	}
	return w.ask(m, func(p int) int { return at[p] })
}

// small are all specs of up to four outputs for which the outputs at all points together are at most twelve bits.
func small(l []world) []asked {
	var specs []asked
	for _, w := range l {
		for m := 1; m <= 4 && m<<w.n <= 12; m++ {
			for all := range 1 << (m << w.n) {
				specs = append(specs, w.ask(m, func(p int) int { return all >> (p * m) % (1 << m) }))
			}
		}
	}
	return specs
}

// diagram makes one that must be permitted.
func diagram(t testing.TB, room int) *zdd.Zdd {
	t.Helper()
	z, e := zdd.New(room)
	if z == nil || e != api.OK {
		t.Fatalf("New(%d) = %v, %d", room, z, e)
	}
	return z
}

// A call is one whose result is a family of these members. Sure are those that must not fail in a new diagram with many nodes.
type call struct {
	make func(z *zdd.Zdd) (int, api.Errno)
	want []int
	sure bool
}

// asPrimes is the call for the primes of output o.
func (a asked) asPrimes(o int) call {
	s, n := a.set(o), a.w.n
	return call{func(z *zdd.Zdd) (int, api.Errno) { return tagged.Primes(z, s, n) }, a.primes(o), n <= setIn}
}

// asRows is the call for the prime rows.
func (a asked) asRows() call {
	s := a.spec()
	return call{func(z *zdd.Zdd) (int, api.Errno) { return tagged.All(z, s) }, a.rows(), a.w.n <= specIn}
}

// check makes the call, and returns whether there was a result. It must be the family; where it may fail it may only tell that no node is left.
func (c call) check(t testing.TB, z *zdd.Zdd, sure bool) bool {
	t.Helper()
	f, e := c.make(z)
	if e == api.ErrNode && !sure {
		if f != 0 {
			t.Fatalf("%d, beside an error", f)
		}
		return false
	}
	l, listed := z.List(f)
	if e != api.OK || listed != api.OK || !slices.Equal(l, c.want) || z.Count(f) != len(c.want) {
		t.Fatalf("%d, %d, which has %d members, %v, not %v", f, e, z.Count(f), l, c.want)
	}
	if same, e := z.Of(c.want); same != f || e != api.OK {
		t.Fatalf("%d, but the family of these members has %d, %d", f, same, e)
	}
	return true
}

// alone makes the call in a new diagram with many nodes.
func (c call) alone(t testing.TB) {
	t.Helper()
	c.check(t, diagram(t, many), c.sure)
}
