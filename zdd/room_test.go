package zdd_test

import (
	"fmt"
	"slices"
	"testing"

	"drawknife/api"
)

// TestOneMember is about P8.1: a member needs a node for each of its items, finds room in as many, and in no fewer: then the result is ErrNode.
func TestOneMember(t *testing.T) {
	for items := range 25 {
		for _, m := range []int{1<<items - 1, 1<<24 - 1<<(24-items)} {
			z, x := diagram(t, items), fam(m)
			for range 2 {
				represents(t, z, of(t, z, x), x)
			}
			for room := range items {
				z = diagram(t, room)
				for range 2 {
					id, e := z.Of(x)
					returns(t, fmt.Sprintf("room %d: Of(%v)", room, x), id, e, 0, api.ErrNode)
				}
				represents(t, z, 1, fam(0))
			}
		}
	}
}

// TestNeeded is about P8.1: a family finds room in as many nodes as it needs, and in no fewer, also none.
func TestNeeded(t *testing.T) {
	next := random(81)
	for range 200 {
		x := mixedFamily(next, 12, 0, 23)
		needed := len(need(x))
		z := diagram(t, needed)
		for range 2 {
			represents(t, z, of(t, z, x), x)
		}
		if needed > 0 {
			for _, room := range []int{0, needed / 2, needed - 1} {
				id, e := diagram(t, room).Of(x)
				returns(t, fmt.Sprintf("room %d of %d: Of(%v)", room, needed, x), id, e, 0, api.ErrNode)
			}
		}
	}
}

// TestResults is about P8.2 and P8.3: each call with as many nodes as its families need, fewer and more; what was there stays, and with all the nodes that there may be the result is there.
func TestResults(t *testing.T) {
	next := random(82)
	for range 60 {
		x, y, item := mixedFamily(next, 8, 0, 9), mixedFamily(next, 6, 0, 9), next(10)
		before := len(need(x, y))
		for want, op := range []family{union(x, y), meet(x, y), less(x, y), with(x, item), without(x, item), join(x, y), least(x)} {
			needed := len(need(x, y, op))
			for _, room := range []int{before, needed - 1, needed, needed + 1, 2*needed + 40, 20000} {
				if room < before {
					continue
				}
				m := start(t, room)
				f, g := of(t, m.z, x), of(t, m.z, y)
				m.know(f, x)
				m.know(g, y)
				for range 2 {
					id, e := []func() (int, api.Errno){
						func() (int, api.Errno) { return m.z.Union(f, g) },
						func() (int, api.Errno) { return m.z.Meet(f, g) },
						func() (int, api.Errno) { return m.z.Less(f, g) },
						func() (int, api.Errno) { return m.z.With(f, item) },
						func() (int, api.Errno) { return m.z.Without(f, item) },
						func() (int, api.Errno) { return m.z.Join(f, g) },
						func() (int, api.Errno) { return m.z.Least(f) },
					}[want]()
					m.take(fmt.Sprintf("call %d of %v, %v, item %d", want, x, y, item), id, e, op)
				}
				m.check()
			}
		}
	}
}

// TestNoNode is about P8.1 to P8.3: each call in a full diagram whose result needs a node that is not there; what was there stays, and what can be told by it is still told.
func TestNoNode(t *testing.T) {
	x, y := fam(0, 3, 1<<23), fam(1, 3)
	z := diagram(t, len(need(x, y)))
	f, g := of(t, z, x), of(t, z, y)
	for range 2 {
		for name, do := range map[string]func() (int, api.Errno){
			"Of":      func() (int, api.Errno) { return z.Of([]int{1 << 22}) },
			"Union":   func() (int, api.Errno) { return z.Union(f, g) },
			"Meet":    func() (int, api.Errno) { return z.Meet(f, g) },
			"Less":    func() (int, api.Errno) { return z.Less(g, f) },
			"With":    func() (int, api.Errno) { return z.With(f, 1) },
			"Without": func() (int, api.Errno) { return z.Without(f, 23) },
			"Join":    func() (int, api.Errno) { return z.Join(f, g) },
			"Least":   func() (int, api.Errno) { return z.Least(g) },
		} {
			id, e := do()
			returns(t, name, id, e, 0, api.ErrNode)
			represents(t, z, f, x)
			represents(t, z, g, y)
		}
		for _, c := range []struct {
			name string
			do   func() (int, api.Errno)
			want int
		}{
			{"Of", func() (int, api.Errno) { return z.Of(x) }, f},
			{"Union", func() (int, api.Errno) { return z.Union(f, f) }, f},
			{"Union with nothing", func() (int, api.Errno) { return z.Union(0, g) }, g},
			{"Meet", func() (int, api.Errno) { return z.Meet(g, g) }, g},
			{"Meet with the empty member", func() (int, api.Errno) { return z.Meet(f, 1) }, 1},
			{"Meet with nothing", func() (int, api.Errno) { return z.Meet(f, 0) }, 0},
			{"Less", func() (int, api.Errno) { return z.Less(f, 0) }, f},
			{"Less of itself", func() (int, api.Errno) { return z.Less(f, f) }, 0},
			{"With", func() (int, api.Errno) { return z.With(f, 23) }, 1},
			{"With no member", func() (int, api.Errno) { return z.With(g, 22) }, 0},
			{"Without", func() (int, api.Errno) { return z.Without(g, 0) }, 0},
			{"Join", func() (int, api.Errno) { return z.Join(f, 1) }, f},
			{"Join with nothing", func() (int, api.Errno) { return z.Join(0, g) }, 0},
			{"Least", func() (int, api.Errno) { return z.Least(f) }, 1},
		} {
			id, e := c.do()
			returns(t, c.name+" in a full diagram", id, e, c.want, api.OK)
		}
	}
}

// TestMixed is about P8.1 to P8.6: long lists of calls, in diagrams with little room and with much.
func TestMixed(t *testing.T) {
	next := random(8)
	for _, items := range []int{1, 2, 3, 4, 6, 24} {
		for _, room := range []int{0, 1, 2, 3, 5, 8, 13, 30, 60, 150, 400} {
			for range 4 {
				m := start(t, room)
				for range 40 {
					m.step(next, items)
				}
				m.check()
			}
		}
	}
}

// TestMuch is about P8.1 to P8.6: long lists of calls, in the greatest capacity.
func TestMuch(t *testing.T) {
	next := random(80)
	for _, items := range []int{1, 2, 3, 4} {
		for range 6 {
			m := start(t, 20000)
			for range 60 {
				m.step(next, items)
			}
			m.check()
		}
	}
}

// TestTen is about P0 (R6): ten calls in the greatest capacity, with families as large as may be.
func TestTen(t *testing.T) {
	next := random(10)
	for round := range 40 {
		m := start(t, 20000)
		x, y := mixedFamily(next, 40, 0, 23), mixedFamily(next, 40, 0, 23)
		f, g, item := of(t, m.z, x), of(t, m.z, y), next(24)
		m.know(f, x)
		m.know(g, y)
		id, e := m.z.Union(f, g)
		m.take("Union", id, e, union(x, y))
		id, e = m.z.Meet(f, g)
		m.take("Meet", id, e, meet(x, y))
		id, e = m.z.Less(f, g)
		m.take("Less", id, e, less(x, y))
		id, e = m.z.With(f, item)
		m.take("With", id, e, with(x, item))
		id, e = m.z.Without(g, item)
		m.take("Without", id, e, without(y, item))
		most, other, top := []int{6, 40, 10}[round%3], []int{6, 1, 10}[round%3], []int{23, 23, 7}[round%3]
		v, w := mixedFamily(next, most, 0, top), mixedFamily(next, other, 0, top)
		h, k := of(t, m.z, v), of(t, m.z, w)
		m.know(h, v)
		m.know(k, w)
		id, e = m.z.Join(h, k)
		m.take("Join", id, e, join(v, w))
	}
}

// TestManyJoins is about P0 (R6) and P8.2: joins of families as large as may be, in all three ways.
func TestManyJoins(t *testing.T) {
	next := random(88)
	for _, c := range [][3]int{{6, 6, 23}, {40, 1, 23}, {1, 40, 23}, {10, 10, 7}} {
		for range 40 {
			m := start(t, 20000)
			x, y := mixedFamily(next, c[0], 0, c[2]), mixedFamily(next, c[1], 0, c[2])
			f, g := of(t, m.z, x), of(t, m.z, y)
			for range 8 {
				id, e := m.z.Join(f, g)
				m.take(fmt.Sprintf("Join of %v, %v", x, y), id, e, join(x, y))
			}
		}
	}
}

// TestManyLeasts is about P0 (R6), P8.3 and P8.6: families of up to twelve members.
func TestManyLeasts(t *testing.T) {
	next := random(89)
	for range 300 {
		m := start(t, 20000)
		x := mixedFamily(next, 12, 0, 23)
		if next(2) == 0 {
			x = x.each(func(m int) int { return m & (x[next(len(x))] | 1<<next(24)) })
		}
		f := of(t, m.z, x)
		id, e := m.z.Least(f)
		m.take(fmt.Sprintf("Least of %v", x), id, e, least(x))
	}
}

// TestCapacity is about P8.1 to P8.4: the same calls represent the same families with more room.
func TestCapacity(t *testing.T) {
	for seed := range uint32(12) {
		var last []family
		for _, room := range []int{2000, 3000, 20000} {
			next := random(seed)
			m := start(t, room)
			for range 12 {
				m.step(next, 5)
			}
			var all []family
			for _, id := range m.ids {
				all = append(all, m.families[id])
			}
			if last != nil && fmt.Sprint(all) != fmt.Sprint(last) {
				t.Fatalf("seed %d, room %d: %v, not %v", seed, room, all, last)
			}
			last = all
		}
	}
}

// TestMemory is about P0 (R3): a diagram neither changes nor keeps the lists that it is given, nor those that it returns.
func TestMemory(t *testing.T) {
	z := diagram(t, 50)
	given := append(make([]int, 0, 9), 6, 1, 5, 1, 0)
	f, e := z.Of(given)
	if e != api.OK || !slices.Equal(given, []int{6, 1, 5, 1, 0}) || !slices.Equal(given[:9], []int{6, 1, 5, 1, 0, 0, 0, 0, 0}) {
		t.Errorf("Of changes its members: %v, %d", given[:9], e)
	}
	copy(given, []int{7, 7, 7, 7, 7})
	x := fam(0, 1, 5, 6)
	represents(t, z, f, x)
	one, _ := z.List(f)
	two, _ := z.List(f)
	for i := range one[:cap(one)] {
		one[:cap(one)][i] = -9
	}
	if !slices.Equal(two, x) {
		t.Errorf("List returns the same memory twice: %v", two)
	}
	represents(t, z, f, x)
}

// TestApart is about P0 (R4): diagrams do not know of each other, and the same calls return the same ids and errors.
func TestApart(t *testing.T) {
	for seed := range uint32(30) {
		var logs [2]string
		for i := range logs {
			next, elsewhere := random(seed), random(seed+uint32(i)*77)
			m, other := start(t, 60), start(t, 40)
			for range 30 {
				m.step(next, 6)
				other.step(elsewhere, 5)
				logs[i] += fmt.Sprint(m.ids)
			}
		}
		if logs[0] != logs[1] {
			t.Fatalf("the same calls return\n%s\nand\n%s", logs[0], logs[1])
		}
	}
}

// TestLook is about P0 (R3): the calls that only look, and those that are refused, make no node.
func TestLook(t *testing.T) {
	z := diagram(t, 4)
	f := of(t, z, fam(3)) // two nodes
	for range 10 {
		for id := -2; id < 10; id++ {
			z.List(id)
			z.Count(id)
			z.Size(id)
			z.With(id, 24)
			z.Union(f, 77)
			z.Join(77, f)
		}
		z.Of([]int{5, 1 << 24})
	}
	x := fam(1<<5 + 1<<6)
	represents(t, z, of(t, z, x), x) // the other two
	represents(t, z, f, fam(3))
}
