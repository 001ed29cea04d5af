package bdd_test

import (
	"fmt"
	"maps"
	"slices"
	"testing"

	"drawknife/api"
	"drawknife/bdd"
)

// points says a set point by point, so that what is expected rests on no diagram and on no operation of package set.
type points [256]bool

// pick are those points of n inputs for which in is true.
func pick(n int, in func(p int) bool) points {
	var x points
	for p := range 1 << n {
		x[p] = in(p)
	}
	return x
}

// numbered are the points that are 1 in the binary digits of k.
func numbered(n, k int) points {
	return pick(n, func(p int) bool { return k>>p&1 == 1 })
}

func (x points) set() api.Set {
	var s api.Set
	for p, in := range x {
		if in {
			s[p/64] += 1 << (p % 64)
		}
	}
	return s
}

// bit is that of an input in a point.
func bit(p, input int) bool {
	return p>>input%2 == 1
}

func ite(n int, f, g, h points) points {
	return pick(n, func(p int) bool { return f[p] && g[p] || !f[p] && h[p] })
}

func not(n int, f points) points {
	return pick(n, func(p int) bool { return !f[p] })
}

func and(n int, f, g points) points {
	return pick(n, func(p int) bool { return f[p] && g[p] })
}

func or(n int, f, g points) points {
	return pick(n, func(p int) bool { return f[p] || g[p] })
}

func some(n int, f points, input int) points {
	return pick(n, func(p int) bool { return f[p] || f[p^(1<<input)] })
}

// A parts is a set of nodes, each told by the text of what it represents from its level on: the length of the text tells the level.
type parts map[string]int

// text is 1 for each point in the set and 0 for the others, in an order in which the input of level 0 differs between the halves of the text, that of level 1 between their halves, and so on.
func (x points) text(order []int) string {
	t := make([]byte, 1<<len(order))
	for i := range t {
		p := 0
		for level, input := range order {
			if bit(i, len(order)-1-level) {
				p += 1 << input
			}
		}
		t[i] = '0'
		if x[p] {
			t[i] = '1'
		}
	}
	return string(t)
}

// add adds the nodes that a text needs: of it and of its halves, their halves, and so on, those whose halves differ.
func (l parts) add(text string) {
	if len(text) == 1 {
		return
	}
	low, high := text[:len(text)/2], text[len(text)/2:]
	if low != high {
		l[text] = 1
	}
	l.add(low)
	l.add(high)
}

// need are the nodes that sets need in an order, all together.
func need(order []int, sets ...points) parts {
	l := parts{}
	for _, x := range sets {
		l.add(x.text(order))
	}
	return l
}

// diagram makes one that must be permitted.
func diagram(t *testing.T, order []int, room int) *bdd.Bdd {
	t.Helper()
	b, e := bdd.New(order, room)
	if b == nil || e != api.OK {
		t.Fatalf("New(%v, %d) = %v, %d", order, room, b, e)
	}
	return b
}

// of makes a set for which there must be room.
func of(t *testing.T, b *bdd.Bdd, x points) int {
	t.Helper()
	id, e := b.Of(x.set())
	if e != api.OK {
		t.Fatalf("Of(%v) = %d, %d", x.set(), id, e)
	}
	return id
}

// represents checks what an id represents, and how many nodes it needs.
func represents(t *testing.T, b *bdd.Bdd, order []int, id int, x points) {
	t.Helper()
	if s, e := b.Set(id); s != x.set() || e != api.OK {
		t.Fatalf("order %v: Set(%d) = %v, %d, not %v", order, id, s, e, x.set())
	}
	if got, want := b.Size(id), len(need(order, x)); got != want {
		t.Fatalf("order %v: Size(%d) = %d, not %d, for %v", order, id, got, want, x.set())
	}
}

// returns checks what a call returns.
func returns(t *testing.T, what string, id int, e api.Errno, want int, we api.Errno) {
	t.Helper()
	if id != want || e != we {
		t.Fatalf("%s = %d, %d, not %d, %d", what, id, e, want, we)
	}
}

// orders are all orders of n inputs.
func orders(n int) [][]int {
	if n == 0 {
		return [][]int{{}}
	}
	var l [][]int
	for _, o := range orders(n - 1) {
		for place := range n {
			l = append(l, slices.Insert(slices.Clone(o), place, n-1))
		}
	}
	return l
}

// random returns a function whose next number is below n.
func random(seed uint32) func(n int) int {
	state := uint64(seed)
	return func(n int) int {
		state = state*6364136223846793005 + 1442695040888963407
		return int(state>>33) % n
	}
}

// mixedOrder is some order of n inputs.
func mixedOrder(next func(n int) int, n int) []int {
	var o []int
	for input := range n {
		o = slices.Insert(o, next(len(o)+1), input)
	}
	return o
}

// mixedSet is some set: of few, of half or of most points, or one that needs few nodes.
func mixedSet(next func(n int) int, n int) points {
	switch kind := next(4); kind {
	case 3:
		a, b, c := next(n+1), next(n+1), next(2) == 0
		return pick(n, func(p int) bool { return (bit(p, a) != bit(p, b)) == c })
	default:
		many := []int{1, 8, 15}[kind]
		return pick(n, func(p int) bool { return next(16) < many })
	}
}

// A mirror is a diagram, and what is known of it: the sets that were made and not swept, by their ids, and the nodes that these need.
type mirror struct {
	t     *testing.T
	b     *bdd.Bdd
	n     int
	order []int
	room  int
	sets  map[int]points
	parts parts
}

func start(t *testing.T, order []int, room int) *mirror {
	t.Helper()
	m := &mirror{t: t, b: diagram(t, order, room), n: len(order), order: order, room: room}
	m.forget(nil)
	return m
}

// forget keeps what is known of these ids, and of the ends.
func (m *mirror) forget(keep []int) {
	old := m.sets
	m.sets = map[int]points{0: {}, 1: pick(m.n, func(int) bool { return true })}
	m.parts = parts{}
	for _, id := range keep {
		if x, ok := old[id]; ok {
			m.sets[id] = x
			m.parts.add(x.text(m.order))
		}
	}
}

// ids are those that are known, in increasing order.
func (m *mirror) ids() []int {
	return slices.Sorted(maps.Keys(m.sets))
}

// take compares what a call returned with the set that it should represent. It fails exactly if there is no room for what is new in it; then the known nodes are swept clean, as it is not told which others were made.
func (m *mirror) take(what string, id int, e api.Errno, x points) {
	m.t.Helper()
	all := maps.Clone(m.parts)
	all.add(x.text(m.order))
	if len(all) > m.room {
		returns(m.t, what, id, e, 0, api.ErrNode)
		m.check()
		m.sweep(m.ids())
		return
	}
	if e != api.OK {
		m.t.Fatalf("order %v, room %d: %s = %d, %d, where %d nodes are needed", m.order, m.room, what, id, e, len(all))
	}
	m.parts = all
	for other, y := range m.sets {
		if (other == id) != (x == y) {
			m.t.Fatalf("order %v: %s = %d, but %d represents %v", m.order, what, id, other, y.set())
		}
	}
	m.sets[id] = x
	represents(m.t, m.b, m.order, id, x)
}

// check compares all that is known.
func (m *mirror) check() {
	m.t.Helper()
	for id, x := range m.sets {
		represents(m.t, m.b, m.order, id, x)
	}
}

func (m *mirror) sweep(keep []int) {
	m.t.Helper()
	m.b.Sweep(keep)
	m.forget(keep)
	m.check()
}

// one is some id that is known.
func (m *mirror) one(next func(n int) int) int {
	l := m.ids()
	return l[next(len(l))]
}

// step makes some call and checks it.
func (m *mirror) step(next func(n int) int) {
	m.t.Helper()
	f, g, h := m.one(next), m.one(next), m.one(next)
	x, y, z := m.sets[f], m.sets[g], m.sets[h]
	switch next(8) {
	case 0:
		id, e := m.b.Not(f)
		m.take(fmt.Sprintf("Not(%d)", f), id, e, not(m.n, x))
	case 1:
		id, e := m.b.And(f, g)
		m.take(fmt.Sprintf("And(%d, %d)", f, g), id, e, and(m.n, x, y))
	case 2:
		id, e := m.b.Or(f, g)
		m.take(fmt.Sprintf("Or(%d, %d)", f, g), id, e, or(m.n, x, y))
	case 3:
		id, e := m.b.Ite(f, g, h)
		m.take(fmt.Sprintf("Ite(%d, %d, %d)", f, g, h), id, e, ite(m.n, x, y, z))
	case 4:
		if m.n > 0 {
			input := next(m.n)
			id, e := m.b.Some(f, input)
			m.take(fmt.Sprintf("Some(%d, %d)", f, input), id, e, some(m.n, x, input))
		}
	case 5:
		if next(4) == 0 {
			m.sweep([]int{f, g, f, 0, -1, 30000})
		}
	default:
		s := mixedSet(next, m.n)
		id, e := m.b.Of(s.set())
		m.take(fmt.Sprintf("Of(%v)", s.set()), id, e, s)
	}
}
