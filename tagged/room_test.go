package tagged_test

import (
	"slices"
	"testing"

	"drawknife/api"
	"drawknife/set"
	"drawknife/tagged"
	"drawknife/zdd"
)

// A lain is a family that lies in a diagram.
type lain struct {
	id, size int
	members  []int
}

// lay makes families in a diagram, as many of these as find room.
func lay(z *zdd.Zdd, families ...[]int) []lain {
	l := []lain{{id: 0}, {id: 1, members: []int{0}}}
	for _, members := range families {
		if id, e := z.Of(members); e == api.OK {
			l = append(l, lain{id: id, size: z.Size(id), members: members})
		}
	}
	return l
}

// stay checks that families are what they were.
func stay(t *testing.T, z *zdd.Zdd, families []lain) {
	t.Helper()
	for _, f := range families {
		if l, e := z.List(f.id); e != api.OK || !slices.Equal(l, f.members) || z.Size(f.id) != f.size {
			t.Fatalf("family %d has become %v, %d, not %v", f.id, l, e, f.members)
		}
		if id, e := z.Of(f.members); e != api.OK || id != f.id {
			t.Fatalf("family %d: Of returns %d, %d", f.id, id, e)
		}
	}
}

// others are families that share nodes with those of primes, and that share none.
func others() [][]int {
	return [][]int{{1 << 23}, {2, 8}, {3 << 20, 5 << 20}, {1 << 16, 2 << 16, 3<<16 + 2}, {0, 1, 2, 4, 8, 1 << 19, 1<<24 - 1}, {0, 5, 6, 9, 10}}
}

// calls are some calls of up to so many inputs, with few primes and with many.
func calls(t *testing.T, most int) []call {
	t.Helper()
	var l []call
	for _, w := range worlds(t, most) {
		for m := 1; m <= 4; m++ {
			for k, a := range w.mixed(m) {
				if k%3 == m%3 {
					l = append(l, a.asPrimes(m-1), a.asRows())
				}
			}
		}
	}
	return l
}

// size is the number of nodes that a family needs, for which there must be room.
func size(t *testing.T, members []int) int {
	t.Helper()
	z := diagram(t, many)
	f, e := z.Of(members)
	if e != api.OK {
		t.Fatalf("Of(%v): %d", members, e)
	}
	return z.Size(f)
}

// TestCapacities is about P11.2 and P11.4: with fewer nodes than the family needs none is left; from there on up to the first capacity that is enough, and with some more, the result is the family or ErrNode.
func TestCapacities(t *testing.T) {
	for _, c := range calls(t, 4) {
		needed := size(t, c.want)
		for room := range needed {
			if c.check(t, diagram(t, room), false) {
				t.Fatalf("room %d: %d nodes are needed", room, needed)
			}
		}
		enough := needed
		for enough < many && !c.check(t, diagram(t, enough), false) {
			enough++
		}
		for _, room := range []int{enough, enough + 1, 2 * enough, enough + 1000, many / 2, many - 1} {
			c.check(t, diagram(t, min(room, many)), false)
		}
		c.check(t, diagram(t, many), true)
	}
}

// TestGreat is about P11.4 and P0 (R6): sets of six inputs, and specs of four, find room in the greatest capacity; those of more inputs are the family or ErrNode, with any capacity.
func TestGreat(t *testing.T) {
	for n := 4; n <= 8; n++ {
		w := worldOf(t, n)
		next := random(uint64(114 + n))
		for _, in := range []int{1, 2, 3, 5, 9} {
			a := w.ask(4, func(int) int {
				outs := 0
				for o := range 4 {
					outs += min(next(in+1), 1) << o
				}
				return outs
			})
			for _, c := range []call{a.asRows(), a.asPrimes(0), a.asPrimes(3)} {
				c.alone(t)
				needed := size(t, c.want)
				for _, room := range []int{0, 1, needed / 2, needed - 1, needed, needed + 1, 2 * needed, 5 * needed} {
					if room >= 0 && c.check(t, diagram(t, min(room, many)), false) && room < needed {
						t.Fatalf("room %d: %d nodes are needed", room, needed)
					}
				}
			}
		}
	}
}

// TestOthers is about P11.2 and P11.4: where other families lie these stay, whether or not there is room for one more.
func TestOthers(t *testing.T) {
	for _, c := range calls(t, 4) {
		needed := size(t, c.want)
		for _, room := range []int{0, 1, 2, 5, needed, needed + 10, needed + 40, 2*needed + 60, 500, many} {
			z := diagram(t, min(room, many))
			families := lay(z, others()...)
			c.check(t, z, false)
			stay(t, z, families)
			c.check(t, z, false)
			stay(t, z, families)
		}
	}
}

// TestThere is about P11.4: where the family lies already its id is the same, also if no node is left; of none and of the empty member too.
func TestThere(t *testing.T) {
	for _, c := range calls(t, 4) {
		for _, room := range []int{size(t, c.want), many} {
			z := diagram(t, room)
			families := lay(z, c.want)
			c.check(t, z, false)
			stay(t, z, families)
		}
	}
}

// TestOneAfterAnother is about P11.2 and P11.4: calls in the same diagram, with little room and with much, do not disturb each other.
func TestOneAfterAnother(t *testing.T) {
	l := calls(t, 4)
	for _, room := range []int{0, 3, 20, 100, 400, 2000, many} {
		z, families := diagram(t, room), []lain{}
		for _, c := range l {
			if c.check(t, z, false) {
				families = append(families, lay(z, c.want)...)
			}
			if len(families) > 60 {
				stay(t, z, families)
				families = families[30:]
			}
		}
		stay(t, z, families)
	}
}

// TestFew is about P11.2: some calls of few inputs in a diagram with much room, in which other families lie, must not fail.
func TestFew(t *testing.T) {
	w := worldOf(t, 2)
	for first := range 16 {
		z := diagram(t, many)
		families := lay(z, others()...)
		for _, all := range []int{first, 15 - first, 0b1110, first} {
			a := w.ask(2, func(p int) int { return all>>p%2 + 2 - p%2*2 })
			a.asPrimes(0).check(t, z, true)
			a.asPrimes(1).check(t, z, true)
			a.asRows().check(t, z, true)
		}
		stay(t, z, families)
	}
}

// TestApart is about P0 (R4): the same calls return the same in another diagram.
func TestApart(t *testing.T) {
	l := calls(t, 4)
	for _, room := range []int{0, 5, 60, 700, many} {
		one, other := diagram(t, room), diagram(t, room)
		for _, c := range l {
			f, e := c.make(one)
			if g, failed := c.make(other); f != g || e != failed {
				t.Fatalf("%d, %d, and then %d, %d", f, e, g, failed)
			}
		}
	}
}

// fault checks that a call returns ErrArg, and nothing beside it.
func fault(t *testing.T, f int, e api.Errno) {
	t.Helper()
	if f != 0 || e != api.ErrArg {
		t.Fatalf("%d, %d, not %d", f, e, api.ErrArg)
	}
}

// full are diagrams with room and without: what is wrong is told ahead of ErrNode.
func full(t *testing.T) []*zdd.Zdd {
	t.Helper()
	tight := diagram(t, 2)
	lay(tight, []int{3})
	return []*zdd.Zdd{nil, diagram(t, 0), tight, diagram(t, many)}
}

// TestNoDiagram is about P11.2: no diagram, whatever is asked of it.
func TestNoDiagram(t *testing.T) {
	for n := range 9 {
		all, _ := set.All(n)
		for _, s := range []api.Set{{}, {1}, all} {
			f, e := tagged.Primes(nil, s, n)
			fault(t, f, e)
			f, e = tagged.All(nil, api.Spec{In: n, On: []api.Set{{}}, May: []api.Set{s}})
			fault(t, f, e)
		}
	}
}

// TestNoInputs is about P11.2: numbers of inputs that there are not.
func TestNoInputs(t *testing.T) {
	for _, z := range full(t) {
		for _, n := range odd {
			for _, s := range []api.Set{{}, {1}, {3}, {0, 0, 0, 1}} {
				f, e := tagged.Primes(z, s, n)
				fault(t, f, e)
			}
		}
	}
}

// TestBeyond is about P11.2: sets with one point of more inputs, alone and beside all of those that there may be.
func TestBeyond(t *testing.T) {
	for _, z := range full(t) {
		for n := range 8 {
			all, _ := set.All(n)
			for p := 1 << n; p < 256; p++ {
				for _, s := range []api.Set{{}, all} {
					s[p/64] |= 1 << (p % 64)
					f, e := tagged.Primes(z, s, n)
					fault(t, f, e)
					f, e = tagged.All(z, api.Spec{In: n, On: make([]api.Set, 2), May: []api.Set{{}, s}})
					fault(t, f, e)
				}
			}
		}
	}
}

// TestWrongSpecs is about P11.2: specs each of which is not valid in one way.
func TestWrongSpecs(t *testing.T) {
	none := make([]api.Set, 5)
	l := []api.Spec{
		{}, {In: 2}, {In: 8}, {In: 1, On: []api.Set{}, May: []api.Set{}},
		{In: 2, On: none, May: none}, {In: 1, May: none[:1]}, {In: 1, On: none[:1]},
		{In: 2, On: none[:1], May: none[:2]}, {In: 2, On: none[:2], May: none[:1]}, {In: 2, On: none[:3], May: none[:4]},
		{In: 2, On: none[:4], May: none}, {In: 2, On: none, May: none[:4]},
		{In: 2, On: make([]api.Set, 300), May: make([]api.Set, 300)},
		{In: 0, On: none[:1], May: []api.Set{{3}}}, {In: 1, On: none[:2], May: []api.Set{{3}, {7}}},
		{In: 1, On: none[:2], May: []api.Set{{3}, {3, 0, 0, 1 << 63}}}, {In: 6, On: none[:1], May: []api.Set{{1, 1}}},
		{In: 2, On: []api.Set{{4}, {}}, May: []api.Set{{3}, {15}}}, {In: 2, On: []api.Set{{}, {1}}, May: []api.Set{{15}, {14}}},
		{In: 8, On: []api.Set{{0, 0, 0, 1}, {}}, May: []api.Set{{15}, {15}}},
	}
	for _, n := range odd {
		l = append(l, api.Spec{In: n, On: none[:2], May: []api.Set{{3}, {3}}}, api.Spec{In: n, On: none[:1], May: none[:1]})
	}
	for _, z := range full(t) {
		for _, s := range l {
			f, e := tagged.All(z, s)
			fault(t, f, e)
		}
	}
}
