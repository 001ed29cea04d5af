package bdd

import "drawknife/api"

// uses reports whether all these ids are those of ends or nodes.
func (b *Bdd) uses(ids ...int) bool {
	if b == nil {
		return false
	}
	for _, id := range ids {
		if _, _, _, ok := b.nodes.Node(id); !ok && id != none && id != all {
			return false
		}
	}
	return true
}

// level returns the level of a node; that of an end is beyond all inputs.
func (b *Bdd) level(id int) int {
	if level, _, _, ok := b.nodes.Node(id); ok {
		return level
	}
	return len(b.order)
}

// half returns the id of what id represents where the input of a level is 1, if one is true, and otherwise 0. The node of id is of this level or a greater one.
func (b *Bdd) half(id, level int, one bool) int {
	at, low, high, ok := b.nodes.Node(id)
	switch {
	case !ok || at != level:
		return id
	case one:
		return high
	}
	return low
}

// join returns the id of what has these halves for the input of a level. Where they are the same no node is needed, nor permitted.
func (b *Bdd) join(level int, half func(one bool) (int, api.Errno)) (int, api.Errno) {
	low, e := half(false)
	if e != api.OK {
		return 0, e
	}
	high, e := half(true)
	if e != api.OK {
		return 0, e
	}
	if low == high {
		return low, api.OK
	}
	return b.nodes.Make(level, low, high)
}

// A memory has the results of one call. It is not kept for the next one: after a sweep the same ids may represent other sets.
type memory struct {
	b    *Bdd
	ites map[[3]int]int // the id of each f, g, h
}

// start returns a memory without results.
func (b *Bdd) start() *memory {
	return &memory{b: b, ites: map[[3]int]int{}}
}

// ite is Ite of ids that are used. All that it makes are parts of its result: there is room for it if there is for that.
func (m *memory) ite(f, g, h int) (int, api.Errno) {
	switch {
	case f == all || g == h:
		return g, api.OK
	case f == none:
		return h, api.OK
	}
	key := [3]int{f, g, h}
	if id, ok := m.ites[key]; ok {
		return id, api.OK
	}
	top := min(m.b.level(f), m.b.level(g), m.b.level(h))
	id, e := m.b.join(top, func(one bool) (int, api.Errno) {
		return m.ite(m.b.half(f, top, one), m.b.half(g, top, one), m.b.half(h, top, one))
	})
	if e == api.OK {
		m.ites[key] = id
	}
	return id, e
}

// some is Some of an id that is used and the input of a level. Only the unions are remembered: above them there are fewer ways down than points.
func (m *memory) some(f, level int) (int, api.Errno) {
	top := m.b.level(f)
	switch {
	case top > level:
		return f, api.OK
	case top == level:
		return m.ite(m.b.half(f, level, false), all, m.b.half(f, level, true))
	}
	return m.b.join(top, func(one bool) (int, api.Errno) {
		return m.some(m.b.half(f, top, one), level)
	})
}
