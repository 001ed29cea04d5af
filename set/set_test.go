package set_test

import (
	"math"
	"slices"
	"testing"

	"drawknife/api"
	"drawknife/set"
)

const points = 256

// model is a set told point by point: what it says does not rest on how words and bits are found.
type model [points]bool

func (m model) set() api.Set {
	var s api.Set
	for p, in := range m {
		if in {
			s[p/64] += uint64(math.Pow(2, float64(p%64)))
		}
	}
	return s
}

func (m model) list() []int {
	var l []int
	for p, in := range m {
		if in {
			l = append(l, p)
		}
	}
	return l
}

func pick(in func(p int) bool) model {
	var m model
	for p := range m {
		m[p] = in(p)
	}
	return m
}

func of(list ...int) model {
	return pick(func(p int) bool { return slices.Contains(list, p) })
}

// models are the empty set, the full one, single points at the ends of words, all points of each number of inputs, halves, and mixed sets.
func models() []model {
	l := []model{of(), of(0), of(63), of(64), of(127), of(128), of(191), of(192), of(255), of(0, 63, 64, 255), of(1, 130)}
	for n := range 9 {
		l = append(l, pick(func(p int) bool { return float64(p) < math.Pow(2, float64(n)) }))
	}
	for i := range 8 {
		l = append(l, pick(func(p int) bool { return bit(p, i) == 1 }))
	}
	for _, step := range []int{3, 7, 11, 64, 67} {
		l = append(l, pick(func(p int) bool { return p%step == 0 }), pick(func(p int) bool { return p%step != 1 }))
	}
	x := uint32(1)
	for range 10 {
		l = append(l, pick(func(int) bool {
			x = x*1664525 + 1013904223
			return x>>24%2 == 1
		}))
	}
	return l
}

// bit divides, so that it does not share a mistake with shifts.
func bit(p, i int) int {
	for range i {
		p /= 2
	}
	return p % 2
}

// odd are numbers that are no points, and no inputs either.
var odd = []int{-1, -2, -8, -63, -64, -65, -128, -256, 256, 257, 319, 320, 512, 1 << 20, math.MaxInt32, math.MinInt32, math.MaxInt, math.MinInt, math.MinInt + 1}

// TestAll is about P1.1.
func TestAll(t *testing.T) {
	sizes := []int{1, 2, 4, 8, 16, 32, 64, 128, 256}
	for n, size := range sizes {
		s, e := set.All(n)
		want := pick(func(p int) bool { return p < size })
		if e != api.OK || s != want.set() {
			t.Errorf("All(%d) = %v, %d", n, s, e)
		}
	}
	for _, n := range append([]int{-1, 9, 10, 63, 64, 65}, odd...) {
		if s, e := set.All(n); e != api.ErrArg || s != (api.Set{}) {
			t.Errorf("All(%d) = %v, %d", n, s, e)
		}
	}
}

// TestHas is about P1.1.
func TestHas(t *testing.T) {
	for _, m := range models() {
		s := m.set()
		for p, in := range m {
			if set.Has(s, p) != in {
				t.Errorf("Has(%v, %d) = %v", s, p, !in)
			}
		}
		for _, p := range odd {
			if set.Has(s, p) {
				t.Errorf("Has(%v, %d)", s, p)
			}
		}
	}
}

// TestWith is about P1.1.
func TestWith(t *testing.T) {
	for _, m := range models() {
		s := m.set()
		for p := range points {
			want := m
			want[p] = true
			if got := set.With(s, p); got != want.set() {
				t.Errorf("With(%v, %d) = %v", s, p, got)
			}
		}
		for _, p := range odd {
			if got := set.With(s, p); got != s {
				t.Errorf("With(%v, %d) = %v", s, p, got)
			}
		}
	}
}

// TestPairs is about P1.1: Or, And, Less and Within.
func TestPairs(t *testing.T) {
	for _, a := range models() {
		for _, b := range models() {
			x, y := a.set(), b.set()
			or := pick(func(p int) bool { return a[p] || b[p] })
			and := pick(func(p int) bool { return a[p] && b[p] })
			less := pick(func(p int) bool { return a[p] && !b[p] })
			if got := set.Or(x, y); got != or.set() {
				t.Errorf("Or(%v, %v) = %v", x, y, got)
			}
			if got := set.And(x, y); got != and.set() {
				t.Errorf("And(%v, %v) = %v", x, y, got)
			}
			if got := set.Less(x, y); got != less.set() {
				t.Errorf("Less(%v, %v) = %v", x, y, got)
			}
			if got := set.Within(x, y); got != (len(less.list()) == 0) {
				t.Errorf("Within(%v, %v) = %v", x, y, got)
			}
		}
	}
}

// TestWithinOnePoint is about P1.1: a single point decides, in each word.
func TestWithinOnePoint(t *testing.T) {
	full := pick(func(int) bool { return true })
	for p := range points {
		hole := full
		hole[p] = false
		if set.Within(full.set(), hole.set()) || !set.Within(hole.set(), full.set()) || set.Within(of(p).set(), hole.set()) || !set.Within(of(p).set(), full.set()) {
			t.Errorf("Within, for point %d", p)
		}
	}
}

// TestCountAndList is about P1.1.
func TestCountAndList(t *testing.T) {
	for _, m := range models() {
		s, want := m.set(), m.list()
		if got := set.Count(s); got != len(want) {
			t.Errorf("Count(%v) = %d", s, got)
		}
		if got := set.List(s); !slices.Equal(got, want) {
			t.Errorf("List(%v) = %v", s, got)
		}
	}
	if n := set.Count(api.Set{}); n != 0 || len(set.List(api.Set{})) != 0 {
		t.Errorf("the empty set: %d", n)
	}
}

// TestHalf is about P1.2.
func TestHalf(t *testing.T) {
	for _, m := range models() {
		s := m.set()
		for i := range 8 {
			on := pick(func(p int) bool { return m[p] && bit(p, i) == 1 })
			off := pick(func(p int) bool { return m[p] && bit(p, i) == 0 })
			if got := set.Half(s, i, true); got != on.set() {
				t.Errorf("Half(%v, %d, true) = %v", s, i, got)
			}
			if got := set.Half(s, i, false); got != off.set() {
				t.Errorf("Half(%v, %d, false) = %v", s, i, got)
			}
		}
		for _, i := range append([]int{-1, 8, 9, 63, 64, 70}, odd...) {
			if set.Half(s, i, true) != (api.Set{}) || set.Half(s, i, false) != (api.Set{}) {
				t.Errorf("Half(%v, %d) has points", s, i)
			}
		}
	}
}

// TestHalvesTogether is about P1.3.
func TestHalvesTogether(t *testing.T) {
	for _, m := range models() {
		s := m.set()
		for i := range 8 {
			on, off := set.Half(s, i, true), set.Half(s, i, false)
			if set.Or(on, off) != s || set.And(on, off) != (api.Set{}) || set.Count(on)+set.Count(off) != set.Count(s) {
				t.Errorf("halves of %v for input %d: %v, %v", s, i, on, off)
			}
		}
	}
}

// TestOrder is about P1.3: what Or, And and Less have to do with each other.
func TestOrder(t *testing.T) {
	for _, m := range models() {
		for _, o := range models() {
			a, b := m.set(), o.set()
			if set.Or(a, b) != set.Or(b, a) || set.And(a, b) != set.And(b, a) {
				t.Errorf("%v and %v: the order matters", a, b)
			}
			if apart := set.Less(b, a); set.Less(set.Or(a, apart), apart) != a {
				t.Errorf("%v and %v: Less does not undo Or", a, apart)
			}
		}
	}
}

// TestExample is the chapter's: all of two inputs, and a half of it.
func TestExample(t *testing.T) {
	s, e := set.All(2)
	if e != api.OK || !slices.Equal(set.List(s), []int{0, 1, 2, 3}) {
		t.Errorf("All(2) = %v, %d", s, e)
	}
	if l := set.List(set.Half(s, 0, true)); !slices.Equal(l, []int{1, 3}) {
		t.Errorf("Half = %v", l)
	}
}

// TestMemory is about P0 (R3, R4): arguments stay, and what one call returned is nobody else's.
func TestMemory(t *testing.T) {
	s, same := of(0, 63, 64, 255).set(), of(0, 63, 64, 255).set()
	first, second := set.List(s), set.List(s)
	if !slices.Equal(first, second) {
		t.Errorf("List differs: %v, %v", first, second)
	}
	first = append(first[:2], 7, 7, 7, 7, 7, 7)
	if !slices.Equal(second, []int{0, 63, 64, 255}) || !slices.Equal(set.List(s), second) {
		t.Errorf("List shares memory with %v: %v", first, second)
	}
	set.With(s, 5)
	set.Or(s, of(5).set())
	set.Less(s, of(63).set())
	set.Half(s, 0, true)
	if s != same {
		t.Errorf("an argument has become %v", s)
	}
}
