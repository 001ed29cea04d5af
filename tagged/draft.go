package tagged

import (
	"drawknife/api"
	"drawknife/set"
	"drawknife/zdd"
)

// The ends of a diagram.
const (
	none = 0 // the family without members
	unit = 1 // that of the empty member alone
)

// A draft makes families of primes of n inputs in a diagram of its own, so that what is only made on the way takes no room where the result goes.
type draft struct {
	z     *zdd.Zdd
	n     int
	known map[part]int // the families of the parts that were done before
}

// A part is what is left of a set from this input on: no point has a bit of those before.
type part struct {
	points api.Set
	input  int
}

func start(n int) *draft {
	z, _ := zdd.New(api.MaxNodes)
	return &draft{z: z, n: n, known: map[part]int{}}
}

// cubes returns the members of the prime cubes of s.
func cubes(s api.Set, n int) ([]int, api.Errno) {
	d := start(n)
	f, e := d.primes(s, 0)
	if e != api.OK {
		return nil, e
	}
	return d.z.List(f)
}

// rows returns the members of those prime rows of a valid s that have just these outputs.
func rows(s api.Spec, outs uint8) ([]int, api.Errno) {
	d := start(s.In)
	f, e := d.primes(common(s, outs), 0)
	var wider []int
	for o := range len(s.May) {
		// A cube that is prime for these outputs, and that one more can have, is prime for that one as well.
		if more := outs | 1<<o; more != outs && e == api.OK {
			var g int
			g, e = d.primes(common(s, more), 0)
			wider = append(wider, g)
		}
	}
	if e == api.OK {
		f, e = d.add(none, f, tag(outs), wider...)
	}
	if e != api.OK {
		return nil, e
	}
	return d.z.List(f)
}

// common returns the points where all these outputs may be on.
func common(s api.Spec, outs uint8) api.Set {
	points, _ := set.All(s.In)
	for o, may := range s.May {
		if outs>>o&1 == 1 {
			points = set.And(points, may)
		}
	}
	return points
}

// primes returns the members of the prime cubes of what is left of a set from input i on.
func (d *draft) primes(s api.Set, i int) (int, api.Errno) {
	switch {
	case s == api.Set{}:
		return none, api.OK
	case i == d.n:
		return unit, api.OK
	}
	p := part{points: s, input: i}
	if f, ok := d.known[p]; ok {
		return f, api.OK
	}
	f, e := d.combine(s, i)
	if e == api.OK {
		d.known[p] = f
	}
	return f, e
}

// combine returns the primes of s, made of those of both its halves for input i.
func (d *draft) combine(s api.Set, i int) (int, api.Errno) {
	zeros, ones := set.Half(s, i, false), lowered(set.Half(s, i, true), i)
	both, e := d.primes(set.And(zeros, ones), i+1)
	all := both
	// What is prime in one half, and within the other one as well, is prime in what they have in common: it needs no literal.
	with := func(half api.Set, literal int) {
		var f int
		if e == api.OK {
			f, e = d.primes(half, i+1)
		}
		if e == api.OK {
			all, e = d.add(all, f, literal, both)
		}
	}
	with(zeros, item(i, 0))
	with(ones, item(i, 1))
	return all, e
}

// lowered returns the points of s, without their bit i.
func lowered(s api.Set, i int) api.Set {
	var l api.Set
	for _, p := range set.List(s) {
		l = set.With(l, p&^(1<<i))
	}
	return l
}

// add returns the members of all, and, with these items added, those of f that are in none of the others.
func (d *draft) add(all, f, items int, others ...int) (int, api.Errno) {
	one, e := d.z.Of([]int{items})
	then := func(do func(f, g int) (int, api.Errno), g int) {
		if e == api.OK {
			f, e = do(f, g)
		}
	}
	for _, g := range others {
		then(d.z.Less, g)
	}
	then(d.z.Join, one)
	then(d.z.Union, all)
	return f, e
}
