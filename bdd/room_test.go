package bdd_test

import (
	"fmt"
	"slices"
	"testing"

	"drawknife/api"
	"drawknife/bdd"
)

// TestMixed is about P6.1 to P6.5: long lists of calls and sweeps, in diagrams of all numbers of inputs, with little room and with much.
func TestMixed(t *testing.T) {
	next := random(6)
	for n := range 9 {
		for _, room := range []int{0, 1, 2, 3, 5, 8, 13, 30, 60, 90, 150, 20000} {
			for range 3 {
				m := start(t, mixedOrder(next, n), room)
				for range 60 {
					m.step(next)
				}
				m.check()
			}
		}
	}
}

// TestNoNode is about P6.1 and P6.2: each call in a full diagram whose result needs a node that is not there; what was there stays, and what can be told by it is still told.
func TestNoNode(t *testing.T) {
	order := []int{1, 0, 2}
	x, y := numbered(3, 0xaa), numbered(3, 0xcc)
	sets := []points{x, y, not(3, x), numbered(3, 0x88), numbered(3, 0xb8)} // input 0; 1; not 0; both; and 0 or 2, by input 1
	full := need(order, sets...)
	b := diagram(t, order, len(full))
	var ids []int
	for _, s := range sets {
		ids = append(ids, of(t, b, s))
	}
	for range 2 {
		for name, do := range map[string]func() (int, api.Errno){
			"Of":   func() (int, api.Errno) { return b.Of(api.Set{0x96}) },
			"Not":  func() (int, api.Errno) { return b.Not(ids[1]) },
			"And":  func() (int, api.Errno) { return b.And(ids[1], ids[2]) },
			"Or":   func() (int, api.Errno) { return b.Or(ids[0], ids[1]) },
			"Ite":  func() (int, api.Errno) { return b.Ite(ids[1], ids[2], ids[0]) },
			"Some": func() (int, api.Errno) { return b.Some(ids[4], 1) },
		} {
			id, e := do()
			returns(t, name, id, e, 0, api.ErrNode)
			for i, s := range sets {
				represents(t, b, order, ids[i], s)
				returns(t, "Of", of(t, b, s), api.OK, ids[i], api.OK)
			}
		}
		for _, c := range []struct {
			name string
			do   func() (int, api.Errno)
			want int
		}{
			{"Not", func() (int, api.Errno) { return b.Not(ids[2]) }, ids[0]},
			{"And", func() (int, api.Errno) { return b.And(ids[0], ids[1]) }, ids[3]},
			{"And of what excludes", func() (int, api.Errno) { return b.And(ids[0], ids[2]) }, 0},
			{"Or", func() (int, api.Errno) { return b.Or(ids[3], ids[1]) }, ids[1]},
			{"Ite", func() (int, api.Errno) { return b.Ite(ids[1], ids[0], 0) }, ids[3]},
			{"Some", func() (int, api.Errno) { return b.Some(ids[3], 0) }, ids[1]},
			{"Some of input 2", func() (int, api.Errno) { return b.Some(ids[3], 2) }, ids[3]},
		} {
			id, e := c.do()
			returns(t, c.name+" in a full diagram", id, e, c.want, api.OK)
		}
		id, e := b.Not(99)
		returns(t, "Not of what is not used", id, e, 0, api.ErrArg)
		id, e = b.Some(ids[4], 3)
		returns(t, "Some of no input", id, e, 0, api.ErrArg)
		id, e = b.Of(api.Set{1 << 8})
		returns(t, "Of what is beyond", id, e, 0, api.ErrArg)
	}
}

// TestOneNode is about P6.1: a capacity of 1 holds one set at a time, and the next one after a sweep.
func TestOneNode(t *testing.T) {
	order := []int{2, 1, 0}
	b := diagram(t, order, 1)
	for input := range 3 {
		x := pick(3, func(p int) bool { return bit(p, input) })
		f := of(t, b, x)
		represents(t, b, order, f, x)
		id, e := b.Not(f)
		returns(t, "Not", id, e, 0, api.ErrNode)
		represents(t, b, order, f, x)
		id, e = b.Some(f, input)
		returns(t, "Some", id, e, 1, api.OK)
		b.Sweep([]int{0, 1})
		refuses(t, b, f)
	}
}

// TestSweep is about P6.3: what is kept stays with its id, what it reaches stays too, and all else is no longer used; ids that are not used are ignored, and nothing is kept of an empty list.
func TestSweep(t *testing.T) {
	order := []int{0, 1, 2, 3}
	x, y, z := numbered(4, 0x8888), numbered(4, 0xf000), numbered(4, 0x6996)
	for _, c := range []struct{ keep, left []int }{
		{nil, nil}, {[]int{}, nil}, {[]int{0, 1}, nil}, {odd, nil},
		{[]int{0}, []int{0}}, {[]int{1}, []int{1}}, {[]int{2}, []int{2}},
		{[]int{2, 0}, []int{0, 2}}, {[]int{1, 1, 1, 0}, []int{0, 1}}, {[]int{2, 1, 0}, []int{0, 1, 2}},
	} {
		b := diagram(t, order, 50)
		sets := []points{x, y, z}
		ids := []int{of(t, b, x), of(t, b, y), of(t, b, z)}
		keep := []int{-7, 9999}
		for _, i := range c.keep {
			if len(c.left) == 0 {
				keep = append(keep, i) // an end, or no id
			} else {
				keep = append(keep, ids[i])
			}
		}
		b.Sweep(keep)
		for i, id := range ids {
			if slices.Contains(c.left, i) {
				represents(t, b, order, id, sets[i])
				returns(t, "Of", of(t, b, sets[i]), api.OK, id, api.OK)
			} else {
				refuses(t, b, id)
			}
		}
	}
}

// TestSweptRoom is about P6.3: after a sweep there is room for just as many nodes as were removed.
func TestSweptRoom(t *testing.T) {
	next := random(63)
	for range 100 {
		order := mixedOrder(next, 6)
		x, y, z := mixedSet(next, 6), mixedSet(next, 6), mixedSet(next, 6)
		room := max(len(need(order, x, y)), len(need(order, x, z)))
		b := diagram(t, order, room)
		f := of(t, b, x)
		of(t, b, y)
		b.Sweep([]int{f})
		represents(t, b, order, of(t, b, z), z)
		represents(t, b, order, f, x)
	}
}

// TestAnew is about P6.2 to P6.4: results are asked for again after a sweep, when their ids, and those they were asked with, are used for other sets.
func TestAnew(t *testing.T) {
	order := []int{0, 1, 2}
	calls := func(b *bdd.Bdd, x, y points) {
		t.Helper()
		f, g := of(t, b, x), of(t, b, y)
		for name, c := range map[string]struct {
			do   func() (int, api.Errno)
			want points
		}{
			"Not":  {func() (int, api.Errno) { return b.Not(f) }, not(3, x)},
			"And":  {func() (int, api.Errno) { return b.And(f, g) }, and(3, x, y)},
			"Or":   {func() (int, api.Errno) { return b.Or(f, g) }, or(3, x, y)},
			"Ite":  {func() (int, api.Errno) { return b.Ite(f, g, 1) }, ite(3, x, y, pick(3, func(int) bool { return true }))},
			"Some": {func() (int, api.Errno) { return b.Some(f, 1) }, some(3, x, 1)},
		} {
			for range 2 {
				id, e := c.do()
				if e != api.OK {
					t.Fatalf("%s: %d", name, e)
				}
				if s, _ := b.Set(id); s != c.want.set() {
					t.Fatalf("%s of %v, %v: %v", name, x.set(), y.set(), s)
				}
			}
		}
	}
	b := diagram(t, order, 20000)
	for f := range 256 {
		for _, g := range []int{f ^ 0xff, 0xaa, 0xcc, 0xf0, 0x96} {
			calls(b, numbered(3, f), numbered(3, g))
			b.Sweep(nil)
		}
	}
}

// TestReused is about P6.2 and P6.4: the same ids with the same call, for other sets than before, and a kept set beside them.
func TestReused(t *testing.T) {
	order := []int{0, 1}
	b := diagram(t, order, 3)
	one, two := numbered(2, 0b1010), numbered(2, 0b1100)
	f, g := of(t, b, one), of(t, b, two)
	both, e := b.And(f, g)
	if e != api.OK {
		t.Fatal(e)
	}
	represents(t, b, order, both, and(2, one, two))
	b.Sweep([]int{g})
	refuses(t, b, f)
	refuses(t, b, both)
	third := numbered(2, 0b0101) // what is not in one: it takes the id of one
	again := of(t, b, third)
	if again != f {
		t.Fatalf("Of = %d: the id %d is not used anew", again, f)
	}
	id, e := b.And(f, g)
	if e != api.OK {
		t.Fatal(e)
	}
	represents(t, b, order, id, and(2, third, two))
	represents(t, b, order, g, two)
}

// TestFull is about P6.1 and P6.5: as many nodes as there may be, and one more.
func TestFull(t *testing.T) {
	next := random(20000)
	order := mixedOrder(next, 8)
	m := start(t, order, 20000)
	var x points
	for {
		x = pick(8, func(int) bool { return next(2) == 0 })
		all := need(order, x)
		for part := range m.parts {
			all[part] = 1
		}
		if len(all) > m.room {
			break
		}
		m.sets[of(t, m.b, x)] = x
		m.parts = all
	}
	id, e := m.b.Of(x.set())
	returns(t, "Of", id, e, 0, api.ErrNode)
	m.check()
	if len(m.parts) < 19900 {
		t.Errorf("only %d nodes", len(m.parts))
	}
	m.b.Sweep(nil)
	represents(t, m.b, order, of(t, m.b, x), x)
}

// TestTwenty is about P0 (R6): twenty calls with sets of eight inputs, in the greatest capacity.
func TestTwenty(t *testing.T) {
	for seed := range uint32(30) {
		next := random(seed)
		m := start(t, mixedOrder(next, 8), 20000)
		for range 20 {
			m.step(next)
		}
		if len(m.parts) > 20*77 {
			t.Errorf("%d nodes", len(m.parts))
		}
	}
}

// TestMemory is about P0 (R3): a diagram keeps none of the lists that it is given, and does not change them.
func TestMemory(t *testing.T) {
	order := append(make([]int, 0, 9), 2, 0, 1)
	b := diagram(t, order, 50)
	if !slices.Equal(order, []int{2, 0, 1}) {
		t.Errorf("New changes its order: %v", order)
	}
	x := numbered(3, 0b10100110)
	f := of(t, b, x)
	copy(order, []int{0, 1, 2})
	represents(t, b, []int{2, 0, 1}, f, x)
	returns(t, "Of", of(t, b, x), api.OK, f, api.OK)
	copy(order, []int{-9, 99, -9})
	represents(t, b, []int{2, 0, 1}, f, x)
	returns(t, "Of", of(t, b, x), api.OK, f, api.OK)
	keep := []int{f, 0, f, -5}
	b.Sweep(keep)
	if !slices.Equal(keep, []int{f, 0, f, -5}) {
		t.Errorf("Sweep changes its ids: %v", keep)
	}
	copy(keep, []int{0, 0, 0, 0})
	represents(t, b, []int{2, 0, 1}, f, x)
}

// TestApart is about P0 (R4): diagrams do not know of each other, and the same calls return the same ids and errors.
func TestApart(t *testing.T) {
	for seed := range uint32(30) {
		var logs [2]string
		for i := range logs {
			next, elsewhere := random(seed), random(seed+uint32(i)*77)
			m, other := start(t, []int{1, 3, 0, 2}, 12), start(t, []int{2, 0, 1}, 9)
			for range 40 {
				m.step(next)
				other.step(elsewhere)
				logs[i] += fmt.Sprint(m.ids())
			}
		}
		if logs[0] != logs[1] {
			t.Fatalf("the same calls return\n%s\nand\n%s", logs[0], logs[1])
		}
	}
}

// TestLook is about P0 (R3): the calls that only look make no node.
func TestLook(t *testing.T) {
	order := []int{0, 1, 2}
	b := diagram(t, order, 4)
	x := numbered(3, 0x88)
	f := of(t, b, x) // two nodes
	for range 10 {
		for id := -2; id < 10; id++ {
			b.Set(id)
			b.Size(id)
			b.Some(id, 5)
			b.Ite(f, id, 77)
		}
		b.Of(api.Set{1 << 60})
	}
	represents(t, b, order, of(t, b, numbered(3, 0x44)), numbered(3, 0x44)) // the other two
	represents(t, b, order, f, x)
}
