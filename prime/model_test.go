package prime_test

import (
	"math"
	"slices"
	"testing"

	"drawknife/api"
	"drawknife/prime"
)

// odd are numbers that are no numbers of inputs.
var odd = []int{-1, -2, -8, -64, 9, 10, 16, 64, 255, 256, 257, math.MaxInt32, math.MinInt32, math.MaxInt, math.MaxInt - 1, math.MinInt, math.MinInt + 1}

// points says a set point by point.
type points [256]bool

// pick are those points of n inputs for which in is true.
func pick(n int, in func(p int) bool) points {
	var x points
	for p := range 1 << n {
		x[p] = in(p)
	}
	return x
}

// numbered are the points that are 1 in the binary digits of k.
func numbered(n, k int) points {
	return pick(n, func(p int) bool { return k>>p%2 == 1 })
}

// every has all points of n inputs.
func every(n int) points {
	return pick(n, func(int) bool { return true })
}

// band are the points of n inputs with so many ones.
func band(n, least, most int) points {
	return pick(n, func(p int) bool { return ones(n, p) >= least && ones(n, p) <= most })
}

func ones(n, p int) int {
	many := 0
	for i := range n {
		many += p >> i % 2
	}
	return many
}

func (x points) set() api.Set {
	var s api.Set
	for p, in := range x {
		if in {
			s[p/64] += 1 << (p % 64)
		}
	}
	return s
}

// A told is a cube that is told by its text.
type told struct {
	text   string
	cube   api.Cube
	points []int
	wider  []int // for each input, the place in the world of the cube without that literal: its own, if there is none
}

// A world has all cubes of n inputs, in increasing order.
type world struct {
	n     int
	cubes []told
	place map[string]int
}

// of makes the cube of a text by adding up powers of two.
func of(text string) api.Cube {
	var c api.Cube
	power := 1
	for i := range len(text) {
		if text[i] != '-' {
			c.Mask += uint8(power)
		}
		if text[i] == '1' {
			c.Val += uint8(power)
		}
		power *= 2
	}
	return c
}

// contains tells by the text whether a point is in a cube.
func contains(text string, p int) bool {
	for i := range len(text) {
		if text[i] == '0' && p>>i%2 == 1 || text[i] == '1' && p>>i%2 == 0 {
			return false
		}
	}
	return true
}

// texts are those of all cubes of n inputs.
func texts(n int) []string {
	l := []string{""}
	for range n {
		var longer []string
		for _, text := range l {
			longer = append(longer, text+"0", text+"1", text+"-")
		}
		l = longer
	}
	return l
}

// worldOf makes the world of n inputs.
func worldOf(n int) world {
	w := world{n: n, place: map[string]int{}}
	for _, text := range texts(n) {
		x := told{text: text, cube: of(text)}
		for p := range 1 << n {
			if contains(text, p) {
				x.points = append(x.points, p)
			}
		}
		w.cubes = append(w.cubes, x)
	}
	slices.SortFunc(w.cubes, func(a, b told) int {
		return 256*int(a.cube.Mask) + int(a.cube.Val) - 256*int(b.cube.Mask) - int(b.cube.Val)
	})
	for k, x := range w.cubes {
		w.place[x.text] = k
	}
	for k, x := range w.cubes {
		for i := range n {
			w.cubes[k].wider = append(w.cubes[k].wider, w.place[x.text[:i]+"-"+x.text[i+1:]])
		}
	}
	return w
}

// within says of each cube of the world whether all its points are in the set.
func (w world) within(x points) []bool {
	var l []bool
	for _, c := range w.cubes {
		l = append(l, !slices.ContainsFunc(c.points, func(p int) bool { return !x[p] }))
	}
	return l
}

// primes says of each cube of the world whether it is prime, if in says which are within.
func (w world) primes(in []bool) []bool {
	var l []bool
	for k, c := range w.cubes {
		l = append(l, in[k] && !slices.ContainsFunc(c.wider, func(other int) bool { return other != k && in[other] }))
	}
	return l
}

// list are the cubes of the world that are told, in increasing order.
func (w world) list(which []bool) []api.Cube {
	var l []api.Cube
	for k, c := range w.cubes {
		if which[k] {
			l = append(l, c.cube)
		}
	}
	return l
}

// grown is the place of what Grow returns for the cube at place k, which must be within.
func (w world) grown(in []bool, k int) int {
	for i := range w.n {
		if other := w.cubes[k].wider[i]; in[other] {
			k = other
		}
	}
	return k
}

// random returns a function whose next number is below n.
func random(seed uint32) func(n int) int {
	state := uint64(seed)
	return func(n int) int {
		state = state*6364136223846793005 + 1442695040888963407
		return int(state>>33) % n
	}
}

// someSets are sets of n inputs: no points, all, one, all but one, those with so many ones, those with an odd number of ones, the halves, and mixed ones of few and of many points.
func someSets(n int) []points {
	next := random(uint32(90 + n))
	l := []points{{}, every(n), pick(n, func(p int) bool { return ones(n, p)%2 == 1 })}
	for most := range n + 1 {
		for least := range most + 1 {
			l = append(l, band(n, least, most))
		}
	}
	for i := range n {
		l = append(l, pick(n, func(p int) bool { return p>>i%2 == 0 }), pick(n, func(p int) bool { return p>>i%2 == 1 }))
	}
	for _, one := range []int{0, 1<<n - 1, next(1 << n)} {
		l = append(l, pick(n, func(p int) bool { return p == one }), pick(n, func(p int) bool { return p != one }))
	}
	for many := range 16 {
		l = append(l, pick(n, func(int) bool { return next(16) < many }))
	}
	return append(l, mixedCubes(next, n), mixedCubes(next, n), mixedCubes(next, n))
}

// mixedCubes are the points of some cubes, so that there are wide ones within them.
func mixedCubes(next func(n int) int, n int) points {
	var x points
	for range 6 {
		text := make([]byte, n)
		for i := range text {
			text[i] = "01--"[next(4)]
		}
		for p := range 1 << n {
			x[p] = x[p] || contains(string(text), p)
		}
	}
	return x
}

// sets calls what is tested with all sets of up to three inputs, and some of more.
func sets(test func(w world, x points)) {
	for n := range 9 {
		w := worldOf(n)
		if n > 3 {
			for _, x := range someSets(n) {
				test(w, x)
			}
			continue
		}
		for k := range 1 << (1 << n) {
			test(w, numbered(n, k))
		}
	}
}

// hasPrimes checks what All returns.
func hasPrimes(t *testing.T, x points, n int, want []api.Cube) {
	t.Helper()
	if l, e := prime.All(x.set(), n); e != api.OK || !slices.Equal(l, want) {
		t.Fatalf("All(%v, %d) = %v, %d, not %v", x.set(), n, l, e, want)
	}
}

// outside checks that c is neither within s nor prime, and does not grow.
func outside(t *testing.T, c api.Cube, s api.Set, n int) {
	t.Helper()
	if prime.Within(c, s, n) {
		t.Fatalf("Within(%v, %v, %d)", c, s, n)
	}
	if prime.Prime(c, s, n) {
		t.Fatalf("Prime(%v, %v, %d)", c, s, n)
	}
	if got, e := prime.Grow(c, s, n); e != api.ErrArg || got != (api.Cube{}) {
		t.Fatalf("Grow(%v, %v, %d) = %v, %d", c, s, n, got, e)
	}
}
