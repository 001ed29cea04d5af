package isop_test

import (
	"math"
	"slices"
	"strings"
	"testing"

	"drawknife/api"
	"drawknife/cube"
	"drawknife/isop"
)

// odd are numbers that are neither numbers of inputs nor inputs.
var odd = []int{-1, -2, -7, -8, -64, 9, 10, 16, 63, 64, 255, 256, 257, math.MaxInt32, math.MinInt32, math.MaxInt, math.MaxInt - 1, math.MinInt, math.MinInt + 1}

// A list says of each point, by its place, whether it is in a set: there are 2^n places for n inputs.
type list []bool

// A call is what Cover and Grown are asked.
type call struct {
	on, may list
	n       int
}

// pick are those points of n inputs for which in is true.
func pick(n int, in func(p int) bool) list {
	var x list
	for p := range 1 << n {
		x = append(x, in(p))
	}
	return x
}

// digits are the points of n inputs where the digits say 1.
func digits(n int, say string) list {
	return pick(n, func(p int) bool { return say[p] == '1' })
}

// none and every have no points of n inputs, and all of them.
func none(n int) list  { return make(list, 1<<n) }
func every(n int) list { return pick(n, func(int) bool { return true }) }

// set adds up powers of two, so that it shares no mistake with the program.
func (x list) set() api.Set {
	var s api.Set
	for p, in := range x {
		if in {
			s[p/64] += uint64(math.Pow(2, float64(p%64)))
		}
	}
	return s
}

// within tells whether each point of x is in y.
func (x list) within(y list) bool {
	for p, in := range x {
		if in && !y[p] {
			return false
		}
	}
	return true
}

// contains tells by the text whether a point is in a cube.
func contains(text string, p int) bool {
	for i := range len(text) {
		if text[i] == '0' && p>>i%2 == 1 || text[i] == '1' && p>>i%2 == 0 {
			return false
		}
	}
	return true
}

// points are those of the cubes of texts.
func points(n int, texts []string) list {
	return pick(n, func(p int) bool {
		return slices.ContainsFunc(texts, func(text string) bool { return contains(text, p) })
	})
}

// where is what x has where its lowest input, which is gone then, is value.
func where(x list, value int) list {
	var half list
	for p := value; p < len(x); p += 2 {
		half = append(half, x[p])
	}
	return half
}

// but are the points of x that are not in y.
func but(x, y list) list {
	l := slices.Clone(x)
	for p, in := range y {
		l[p] = l[p] && !in
	}
	return l
}

// cover tells a cover by texts, for n inputs that are left: where the program keeps sets of all inputs that do not depend on the first ones, these have gone here.
func cover(on, may list, n int) []string {
	if !slices.Contains(on, true) {
		return nil
	}
	if !slices.Contains(may, false) {
		return []string{strings.Repeat("-", n)}
	}
	on0, on1, may0, may1 := where(on, 0), where(on, 1), where(may, 0), where(may, 1)
	low := cover(but(on0, may1), may0, n-1)
	high := cover(but(on1, may0), may1, n-1)
	left0, left1 := but(on0, points(n-1, low)), but(on1, points(n-1, high))
	for p := range left0 {
		left0[p] = left0[p] || left1[p]
	}
	var l []string
	for _, text := range low {
		l = append(l, "0"+text)
	}
	for _, text := range high {
		l = append(l, "1"+text)
	}
	for _, text := range cover(left0, but(may0, but(may0, may1)), n-1) {
		l = append(l, "-"+text)
	}
	return l
}

// grown tells the grown cubes of texts, each once.
func grown(texts []string, may list, n int) []string {
	var l []string
	for _, text := range texts {
		for i := range n {
			if wider := text[:i] + "-" + text[i+1:]; points(n, []string{wider}).within(may) {
				text = wider
			}
		}
		if !slices.Contains(l, text) {
			l = append(l, text)
		}
	}
	return l
}

// texts are those of cubes that must be valid.
func texts(t testing.TB, l []api.Cube, n int) []string {
	t.Helper()
	var said []string
	for _, c := range l {
		text, e := cube.Text(c, n)
		if e != api.OK {
			t.Fatalf("%v is no cube of %d inputs", c, n)
		}
		said = append(said, text)
	}
	return said
}

// covers and grows return the texts of Cover and Grown, which must not fail.
func (c call) covers(t testing.TB) []string { t.Helper(); return c.asks(t, isop.Cover) }
func (c call) grows(t testing.TB) []string  { t.Helper(); return c.asks(t, isop.Grown) }

func (c call) asks(t testing.TB, ask func(on, may api.Set, n int) ([]api.Cube, api.Errno)) []string {
	t.Helper()
	l, e := ask(c.on.set(), c.may.set(), c.n)
	if e != api.OK {
		t.Fatalf("%v, %v, %d: %d", c.on.set(), c.may.set(), c.n, e)
	}
	return texts(t, l, c.n)
}

// hasCubes checks what Cover and Grown return.
func (c call) hasCubes(t testing.TB, wantCover, wantGrown []string) {
	t.Helper()
	if l := c.covers(t); !slices.Equal(l, wantCover) {
		t.Fatalf("Cover(%v, %v, %d) = %q, not %q", c.on.set(), c.may.set(), c.n, l, wantCover)
	}
	if l := c.grows(t); !slices.Equal(l, wantGrown) {
		t.Fatalf("Grown(%v, %v, %d) = %q, not %q", c.on.set(), c.may.set(), c.n, l, wantGrown)
	}
}

// refused checks that both calls return ErrArg, and nothing beside it.
func refused(t testing.TB, on, may api.Set, n int) {
	t.Helper()
	if l, e := isop.Cover(on, may, n); e != api.ErrArg || len(l) != 0 {
		t.Fatalf("Cover(%v, %v, %d) = %v, %d", on, may, n, l, e)
	}
	if l, e := isop.Grown(on, may, n); e != api.ErrArg || len(l) != 0 {
		t.Fatalf("Grown(%v, %v, %d) = %v, %d", on, may, n, l, e)
	}
}

// random returns a function whose next number is below n.
func random(seed uint32) func(n int) int {
	state := uint64(seed)
	return func(n int) int {
		state = state*6364136223846793005 + 1442695040888963407
		return int(state>>33) % n
	}
}

// ones is the number of inputs that are 1 at point p.
func ones(p int) int {
	if p == 0 {
		return 0
	}
	return p%2 + ones(p/2)
}

// mixed are sets of n inputs: no points, all, those with an odd number of ones, those with so many ones, those that depend on one input alone, few and many at random, and those of some cubes.
func mixed(n int, next func(n int) int) []list {
	l := []list{none(n), every(n), pick(n, func(p int) bool { return ones(p)%2 == 1 })}
	for most := range n {
		l = append(l,
			pick(n, func(p int) bool { return ones(p) <= most }),
			pick(n, func(p int) bool { return ones(p) > most/2 && ones(p) <= most }),
			pick(n, func(p int) bool { return p>>most%2 == 0 }),
			pick(n, func(p int) bool { return p>>most%2 == 1 }))
	}
	for many := range 16 {
		l = append(l, pick(n, func(int) bool { return next(16) < many }))
	}
	for range 8 {
		var said []string
		for range 5 {
			text := ""
			for range n {
				text += []string{"0", "1", "-", "-"}[next(4)]
			}
			said = append(said, text)
		}
		l = append(l, points(n, said))
	}
	return l
}

// parts are points of may: all, none, one, few, many, and those that are in another one too.
func parts(may list, n int, next func(n int) int) []list {
	one, other := next(1<<n), mixed(n, next)[next(3+4*n)]
	return []list{
		may, none(n),
		pick(n, func(p int) bool { return may[p] && p == one }),
		pick(n, func(p int) bool { return may[p] && next(5) == 0 }),
		pick(n, func(p int) bool { return may[p] && next(5) > 0 }),
		but(may, other),
	}
}

// calls tests all pairs of sets of up to three inputs, and mixed ones of more.
func calls(test func(c call)) {
	for n := range 4 {
		for k := range int(math.Pow(3, float64(int(1)<<n))) {
			on, may := none(n), none(n)
			for p, rest := 0, k; p < 1<<n; p, rest = p+1, rest/3 {
				on[p], may[p] = rest%3 == 2, rest%3 > 0
			}
			test(call{on, may, n})
		}
	}
	for n := 4; n <= 8; n++ {
		next := random(uint32(120 + n))
		for range 3 {
			for _, may := range mixed(n, next) {
				for _, on := range parts(may, n, next) {
					test(call{on, may, n})
				}
			}
		}
	}
}
