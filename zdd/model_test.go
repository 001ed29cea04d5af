package zdd_test

import (
	"fmt"
	"slices"
	"testing"

	"drawknife/api"
	"drawknife/zdd"
)

// A family says its members one by one, in increasing order and each once, so that what is expected rests on no diagram.
type family []int

// fam is the family of these members, which may be in any order and listed twice.
func fam(l ...int) family {
	x := slices.Clone(l)
	slices.Sort(x)
	return slices.Compact(x)
}

// numbered is the family of those sets of the items whose place is 1 in the binary digits of k.
func numbered(k int, items ...int) family {
	var x []int
	for place := range 1 << len(items) {
		if k>>place&1 == 1 {
			m := 0
			for i, item := range items {
				m += place >> i & 1 << item
			}
			x = append(x, m)
		}
	}
	return fam(x...)
}

// pick are those members of x for which in is true.
func (x family) pick(in func(m int) bool) family {
	var l []int
	for _, m := range x {
		if in(m) {
			l = append(l, m)
		}
	}
	return fam(l...)
}

// each is what each member of x becomes.
func (x family) each(become func(m int) int) family {
	var l []int
	for _, m := range x {
		l = append(l, become(m))
	}
	return fam(l...)
}

func has(m, item int) bool {
	return m>>item%2 == 1
}

// contains reports whether each item of n is one of m.
func contains(m, n int) bool {
	for item := range 24 {
		if has(n, item) && !has(m, item) {
			return false
		}
	}
	return true
}

func union(x, y family) family {
	return fam(append(slices.Clone(x), y...)...)
}

func meet(x, y family) family {
	return x.pick(func(m int) bool { return slices.Contains(y, m) })
}

func less(x, y family) family {
	return x.pick(func(m int) bool { return !slices.Contains(y, m) })
}

func with(x family, item int) family {
	return x.pick(func(m int) bool { return has(m, item) }).each(func(m int) int { return m - 1<<item })
}

func without(x family, item int) family {
	return x.pick(func(m int) bool { return !has(m, item) })
}

func join(x, y family) family {
	var all family
	for _, m := range y {
		all = append(all, x.each(func(n int) int { return m | n })...)
	}
	return fam(all...)
}

func least(x family) family {
	return x.pick(func(m int) bool {
		return !slices.ContainsFunc(x, func(n int) bool { return n != m && contains(m, n) })
	})
}

// A parts is a set of nodes, each told by the members of what it represents: these tell its item, the lowest one that any of them has.
type parts map[string]int

// add adds the nodes that a family needs.
func (p parts) add(x family) {
	for item := range 24 {
		if high := with(x, item); len(high) > 0 {
			if key := fmt.Sprint(x); p[key] == 0 {
				p[key] = 1
				p.add(without(x, item))
				p.add(high)
			}
			return
		}
	}
}

// need are the nodes that families need, all together.
func need(families ...family) parts {
	p := parts{}
	for _, x := range families {
		p.add(x)
	}
	return p
}

// diagram makes one that must be permitted.
func diagram(t *testing.T, room int) *zdd.Zdd {
	t.Helper()
	z, e := zdd.New(room)
	if z == nil || e != api.OK {
		t.Fatalf("New(%d) = %v, %d", room, z, e)
	}
	return z
}

// of makes a family for which there must be room.
func of(t *testing.T, z *zdd.Zdd, x family) int {
	t.Helper()
	return ok(t, fmt.Sprintf("Of(%v)", x), func() (int, api.Errno) { return z.Of(x) })
}

// ok is what a call returns that must not fail.
func ok(t *testing.T, what string, do func() (int, api.Errno)) int {
	t.Helper()
	id, e := do()
	if e != api.OK {
		t.Fatalf("%s = %d, %d", what, id, e)
	}
	return id
}

// represents checks what an id represents, and how many nodes it needs.
func represents(t *testing.T, z *zdd.Zdd, id int, x family) {
	t.Helper()
	if l, e := z.List(id); !slices.Equal(l, x) || e != api.OK {
		t.Fatalf("List(%d) = %v, %d, not %v", id, l, e, x)
	}
	if n := z.Count(id); n != len(x) {
		t.Fatalf("Count(%d) = %d, not %d", id, n, len(x))
	}
	if n, want := z.Size(id), len(need(x)); n != want {
		t.Fatalf("Size(%d) = %d, not %d, for %v", id, n, want, x)
	}
}

// returns checks what a call returns.
func returns(t *testing.T, what string, id int, e api.Errno, want int, we api.Errno) {
	t.Helper()
	if id != want || e != we {
		t.Fatalf("%s = %d, %d, not %d, %d", what, id, e, want, we)
	}
}

// random returns a function whose next number is below n.
func random(seed uint32) func(n int) int {
	state := uint64(seed)
	return func(n int) int {
		state = state*6364136223846793005 + 1442695040888963407
		return int(state>>33) % n
	}
}

// mixedFamily is some family of up to most members of the items from low to high: few items in each or many, members that are close to one another, or the edges.
func mixedFamily(next func(n int) int, most, low, high int) family {
	var l []int
	kind, base := next(4), 0
	for range next(most + 1) {
		m := 0
		for item := low; item <= high; item++ {
			if next(8) < []int{1, 4, 7, 1}[kind] {
				m += 1 << item
			}
		}
		if kind == 3 {
			m ^= base
			base = m
		}
		if next(12) == 0 {
			m = next(2) * (1<<(high+1) - 1<<low)
		}
		l = append(l, m)
	}
	return fam(l...)
}

// A mirror is a diagram, and what is known of it: the families that were made, by their ids.
type mirror struct {
	t        *testing.T
	z        *zdd.Zdd
	room     int
	ids      []int
	families map[int]family
	parts    parts
}

func start(t *testing.T, room int) *mirror {
	t.Helper()
	m := &mirror{t: t, z: diagram(t, room), room: room, families: map[int]family{}, parts: parts{}}
	m.know(0, fam())
	m.know(1, fam(0))
	return m
}

func (m *mirror) know(id int, x family) {
	if _, ok := m.families[id]; !ok {
		m.ids = append(m.ids, id)
	}
	m.families[id] = x
	m.parts.add(x)
}

// take compares what a call returned with the family that it should represent. It must fail if there are not as many nodes as the known families and this one need, and must not if there are as many as there may be.
func (m *mirror) take(what string, id int, e api.Errno, x family) {
	m.t.Helper()
	all := need(x)
	for part := range m.parts {
		all[part] = 1
	}
	if len(all) > m.room || e == api.ErrNode && m.room < 20000 {
		returns(m.t, what, id, e, 0, api.ErrNode)
		m.check()
		return
	}
	if e != api.OK {
		m.t.Fatalf("room %d: %s = %d, %d", m.room, what, id, e)
	}
	for other, y := range m.families {
		if (other == id) != slices.Equal(x, y) {
			m.t.Fatalf("%s = %d, but %d represents %v", what, id, other, y)
		}
	}
	m.know(id, x)
	represents(m.t, m.z, id, x)
}

// check compares all that is known.
func (m *mirror) check() {
	m.t.Helper()
	for id, x := range m.families {
		represents(m.t, m.z, id, x)
	}
}

// one is some id that is known.
func (m *mirror) one(next func(n int) int) (int, family) {
	id := m.ids[next(len(m.ids))]
	return id, m.families[id]
}

// step makes some call, with new members of up to so many items, and checks it.
func (m *mirror) step(next func(n int) int, items int) {
	m.t.Helper()
	f, x := m.one(next)
	g, y := m.one(next)
	item := next(items)
	switch next(10) {
	case 0:
		id, e := m.z.Union(f, g)
		m.take(fmt.Sprintf("Union(%d, %d)", f, g), id, e, union(x, y))
	case 1:
		id, e := m.z.Meet(f, g)
		m.take(fmt.Sprintf("Meet(%d, %d)", f, g), id, e, meet(x, y))
	case 2:
		id, e := m.z.Less(f, g)
		m.take(fmt.Sprintf("Less(%d, %d)", f, g), id, e, less(x, y))
	case 3:
		id, e := m.z.With(f, item)
		m.take(fmt.Sprintf("With(%d, %d)", f, item), id, e, with(x, item))
	case 4:
		id, e := m.z.Without(f, item)
		m.take(fmt.Sprintf("Without(%d, %d)", f, item), id, e, without(x, item))
	case 5:
		id, e := m.z.Join(f, g)
		m.take(fmt.Sprintf("Join(%d, %d)", f, g), id, e, join(x, y))
	case 6:
		id, e := m.z.Least(f)
		m.take(fmt.Sprintf("Least(%d)", f), id, e, least(x))
	default:
		x = mixedFamily(next, 6, 0, items-1)
		id, e := m.z.Of(x)
		m.take(fmt.Sprintf("Of(%v)", x), id, e, x)
	}
}
