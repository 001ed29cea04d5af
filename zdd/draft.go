package zdd

import (
	"drawknife/api"
	"drawknife/arena"
)

// draft returns a work in a diagram of its own, for rules that also make what their results do not need.
func draft() *work {
	nodes, _ := arena.New(api.MaxNodes)
	return (&Zdd{nodes}).start()
}

// aside makes of a rule of a draft one of z: only what it returns is brought back, so that all else takes no room here.
func (z *Zdd) aside(d *work, do rule) rule {
	return func(f, g int) (int, api.Errno) {
		x, e := d.copy(z, f)
		if e != api.OK {
			return 0, e
		}
		y, e := d.copy(z, g)
		if e != api.OK {
			return 0, e
		}
		id, e := do(x, y)
		if e != api.OK {
			return 0, e
		}
		return z.start().copy(d.Zdd, id)
	}
}

// copy returns the family that f is in another diagram, which is always the same one. The ends are the same in all.
func (w *work) copy(from *Zdd, f int) (int, api.Errno) {
	level, low, high, ok := from.nodes.Node(f)
	if !ok {
		return f, api.OK
	}
	return w.recall(toCopy, f, 0, func() (int, api.Errno) {
		return w.build(level, func(has bool) (int, api.Errno) {
			if has {
				return w.copy(from, high)
			}
			return w.copy(from, low)
		})
	})
}

// join is Join of ids that are used.
func (w *work) join(f, g int) (int, api.Errno) {
	switch {
	case f == none || g == none:
		return none, api.OK
	case f == unit:
		return g, api.OK
	case g == unit:
		return f, api.OK
	}
	return w.recall(toJoin, f, g, func() (int, api.Errno) {
		item := min(w.level(f), w.level(g))
		f0, f1 := w.halves(f, item)
		g0, g1 := w.halves(g, item)
		return w.build(item, func(has bool) (int, api.Errno) {
			if has {
				return w.joinAll([2]int{f1, g1}, [2]int{f1, g0}, [2]int{f0, g1})
			}
			return w.join(f0, g0)
		})
	})
}

// joinAll returns the members of the joins of all these pairs.
func (w *work) joinAll(pairs ...[2]int) (int, api.Errno) {
	all := none
	for _, p := range pairs {
		id, e := w.join(p[0], p[1])
		if e != api.OK {
			return 0, e
		}
		all, e = w.union(all, id)
		if e != api.OK {
			return 0, e
		}
	}
	return all, api.OK
}

// least is Least of an id that is used.
func (w *work) least(f int) (int, api.Errno) {
	if f == none || f == unit {
		return f, api.OK
	}
	return w.recall(toLeast, f, 0, func() (int, api.Errno) {
		item := w.level(f)
		f0, f1 := w.halves(f, item)
		// No member without the item contains one with it. Those with it need only be compared with the least ones of the others: each other contains one of these.
		low, e := w.least(f0)
		if e != api.OK {
			return 0, e
		}
		return w.build(item, func(has bool) (int, api.Errno) {
			if !has {
				return low, api.OK
			}
			high, e := w.least(f1)
			if e != api.OK {
				return 0, e
			}
			return w.bare(high, low)
		})
	})
}

// bare returns the members of f that do not contain any member of g.
func (w *work) bare(f, g int) (int, api.Errno) {
	switch {
	case f == none || f == g || g == unit:
		return none, api.OK
	case g == none:
		return f, api.OK
	}
	return w.recall(toBare, f, g, func() (int, api.Errno) {
		item := min(w.level(f), w.level(g))
		f0, f1 := w.halves(f, item)
		g0, g1 := w.halves(g, item)
		return w.build(item, func(has bool) (int, api.Errno) {
			if !has {
				return w.bare(f0, g0)
			}
			rest, e := w.bare(f1, g0)
			if e != api.OK {
				return 0, e
			}
			return w.bare(rest, g1)
		})
	})
}
