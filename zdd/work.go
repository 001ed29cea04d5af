package zdd

import "drawknife/api"

// A rule computes a family from one, and another or an item.
type rule func(f, x int) (int, api.Errno)

// The rules whose results are remembered.
const (
	toUnion = iota
	toMeet
	toLess
	toWith
	toWithout
	toJoin
	toBare
	toLeast
	toCopy
)

// A work has the results of one call. It is not kept for the next one: ids of what a call made before it failed may be used anew.
type work struct {
	*Zdd
	known map[[3]int]int // the family of each rule, and what it was done with
}

// start returns a work without results.
func (z *Zdd) start() *work {
	return &work{z, map[[3]int]int{}}
}

// recall returns what find returns, which is called only if that is not known.
func (w *work) recall(name, f, x int, find func() (int, api.Errno)) (int, api.Errno) {
	key := [3]int{name, f, x}
	if id, ok := w.known[key]; ok {
		return id, api.OK
	}
	id, e := find()
	if e == api.OK {
		w.known[key] = id
	}
	return id, e
}

// apart does a rule with the halves of both families for their lowest item.
func (w *work) apart(name, f, g int, do rule) (int, api.Errno) {
	return w.recall(name, f, g, func() (int, api.Errno) {
		item := min(w.level(f), w.level(g))
		f0, f1 := w.halves(f, item)
		g0, g1 := w.halves(g, item)
		return w.build(item, func(has bool) (int, api.Errno) {
			if has {
				return do(f1, g1)
			}
			return do(f0, g0)
		})
	})
}

// below does a rule with the halves of one family and an item that is greater than its lowest one.
func (w *work) below(name, f, item int, do rule) (int, api.Errno) {
	return w.recall(name, f, item, func() (int, api.Errno) {
		lowest := w.level(f)
		f0, f1 := w.halves(f, lowest)
		return w.build(lowest, func(has bool) (int, api.Errno) {
			if has {
				return do(f1, item)
			}
			return do(f0, item)
		})
	})
}

// union is Union of ids that are used. All that it makes are parts of its result, as it is with the other rules below: there is room for it if there is for that.
func (w *work) union(f, g int) (int, api.Errno) {
	switch {
	case f == g || g == none:
		return f, api.OK
	case f == none:
		return g, api.OK
	}
	return w.apart(toUnion, f, g, w.union)
}

// meet is Meet of ids that are used.
func (w *work) meet(f, g int) (int, api.Errno) {
	switch {
	case f == g:
		return f, api.OK
	case f == none || g == none:
		return none, api.OK
	}
	return w.apart(toMeet, f, g, w.meet)
}

// less is Less of ids that are used.
func (w *work) less(f, g int) (int, api.Errno) {
	switch {
	case f == g || f == none:
		return none, api.OK
	case g == none:
		return f, api.OK
	}
	return w.apart(toLess, f, g, w.less)
}

// with is With of an id that is used and an item that there is.
func (w *work) with(f, item int) (int, api.Errno) {
	if w.level(f) >= item {
		_, high := w.halves(f, item)
		return high, api.OK
	}
	return w.below(toWith, f, item, w.with)
}

// without is Without of an id that is used and an item that there is.
func (w *work) without(f, item int) (int, api.Errno) {
	if w.level(f) >= item {
		low, _ := w.halves(f, item)
		return low, api.OK
	}
	return w.below(toWithout, f, item, w.without)
}
