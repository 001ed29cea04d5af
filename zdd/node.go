package zdd

import "drawknife/api"

// uses reports whether all these ids are those of ends or nodes.
func (z *Zdd) uses(ids ...int) bool {
	if z == nil {
		return false
	}
	for _, id := range ids {
		if _, _, _, ok := z.nodes.Node(id); !ok && id != none && id != unit {
			return false
		}
	}
	return true
}

// attempt returns what do returns. If that is an error, the nodes that were made on the way are removed: no call returns their ids, and they would take room for good.
func (z *Zdd) attempt(do func() (int, api.Errno)) (int, api.Errno) {
	before := z.nodes.Len()
	id, e := do()
	if e == api.OK {
		return id, api.OK
	}
	keep := make([]int, before)
	for i := range keep {
		keep[i] = firstNode + i
	}
	z.nodes.Sweep(keep)
	return 0, e
}

// level returns the lowest item of a family; for an end it is beyond all items.
func (z *Zdd) level(f int) int {
	if level, _, _, ok := z.nodes.Node(f); ok {
		return level
	}
	return api.MaxItems
}

// halves returns the members of f that do not have an item, and those that do, with it removed. None has a lower one.
func (z *Zdd) halves(f, item int) (low, high int) {
	if level, low, high, ok := z.nodes.Node(f); ok && level == item {
		return low, high
	}
	return f, none
}

// build returns the family that has these halves for an item. Where no member has the item no node is needed, nor permitted.
func (z *Zdd) build(item int, half func(has bool) (int, api.Errno)) (int, api.Errno) {
	low, e := half(false)
	if e != api.OK {
		return 0, e
	}
	high, e := half(true)
	if e != api.OK {
		return 0, e
	}
	if high == none {
		return low, api.OK
	}
	return z.nodes.Make(item, low, high)
}

// of returns the family of the members of l without the items before this one. It moves the members within l.
func (z *Zdd) of(l []int, item int) (int, api.Errno) {
	switch {
	case len(l) == 0:
		return none, api.OK
	case item == api.MaxItems:
		return unit, api.OK
	}
	n := part(l, item)
	return z.build(item, func(has bool) (int, api.Errno) {
		if has {
			return z.of(l[n:], item+1)
		}
		return z.of(l[:n], item+1)
	})
}

// part moves the members that do not have the item to the front, and returns how many there are.
func part(l []int, item int) int {
	n := 0
	for i, m := range l {
		if m>>item&1 == 0 {
			l[i], l[n] = l[n], m
			n++
		}
	}
	return n
}

// each calls take with each member of f, with these items added.
func (z *Zdd) each(f, items int, take func(m int)) {
	level, low, high, ok := z.nodes.Node(f)
	if ok {
		z.each(low, items, take)
		z.each(high, items|1<<level, take)
	} else if f == unit {
		take(items)
	}
}

// count returns the number of members of f. Known are those of the ends, and of the nodes that were counted before.
func (z *Zdd) count(f int, known map[int]int) int {
	if n, ok := known[f]; ok {
		return n
	}
	_, low, high, _ := z.nodes.Node(f)
	n := z.count(low, known) + z.count(high, known)
	known[f] = n
	return n
}
