package zdd_test

import (
	"fmt"
	"math"
	"slices"
	"testing"

	"drawknife/api"
	"drawknife/zdd"
)

// odd are numbers that are no members, no items, no ids and no capacities.
var odd = []int{-1, -2, -3, -24, -1 << 24, 1 << 24, 1<<24 + 1, 1 << 25, math.MaxInt32, math.MinInt32, math.MaxInt, math.MaxInt - 1, math.MinInt, math.MinInt + 1, math.MinInt + 2}

// TestNew is about P8.1: all edges of a capacity; a new diagram has the ends and nothing else.
func TestNew(t *testing.T) {
	for _, room := range []int{0, 1, 2, 19999, 20000} {
		z := diagram(t, room)
		represents(t, z, 0, fam())
		represents(t, z, 1, fam(0))
		for _, id := range []int{2, 3, room, room + 1, room + 2} {
			if id > 1 {
				refuses(t, z, id)
			}
		}
	}
	for _, room := range append([]int{20001, 20002, 65536}, odd...) {
		if z, e := zdd.New(room); z != nil || e != api.ErrArg {
			t.Errorf("New(%d) = %v, %d", room, z, e)
		}
	}
}

// refuses checks that an id is refused at each place of each call.
func refuses(t *testing.T, z *zdd.Zdd, bad int) {
	t.Helper()
	for name, do := range map[string]func() (int, api.Errno){
		"Union(x, 0)":    func() (int, api.Errno) { return z.Union(bad, 0) },
		"Union(0, x)":    func() (int, api.Errno) { return z.Union(0, bad) },
		"Union(x, x)":    func() (int, api.Errno) { return z.Union(bad, bad) },
		"Meet(x, 0)":     func() (int, api.Errno) { return z.Meet(bad, 0) },
		"Meet(0, x)":     func() (int, api.Errno) { return z.Meet(0, bad) },
		"Meet(x, x)":     func() (int, api.Errno) { return z.Meet(bad, bad) },
		"Less(x, 0)":     func() (int, api.Errno) { return z.Less(bad, 0) },
		"Less(0, x)":     func() (int, api.Errno) { return z.Less(0, bad) },
		"Less(x, x)":     func() (int, api.Errno) { return z.Less(bad, bad) },
		"Join(x, 0)":     func() (int, api.Errno) { return z.Join(bad, 0) },
		"Join(0, x)":     func() (int, api.Errno) { return z.Join(0, bad) },
		"Join(x, 1)":     func() (int, api.Errno) { return z.Join(bad, 1) },
		"Join(1, x)":     func() (int, api.Errno) { return z.Join(1, bad) },
		"With(x, 0)":     func() (int, api.Errno) { return z.With(bad, 0) },
		"With(x, 23)":    func() (int, api.Errno) { return z.With(bad, 23) },
		"With(x, 24)":    func() (int, api.Errno) { return z.With(bad, 24) },
		"Without(x, 0)":  func() (int, api.Errno) { return z.Without(bad, 0) },
		"Without(x, 23)": func() (int, api.Errno) { return z.Without(bad, 23) },
		"Without(x, -1)": func() (int, api.Errno) { return z.Without(bad, -1) },
		"Least(x)":       func() (int, api.Errno) { return z.Least(bad) },
	} {
		id, e := do()
		returns(t, fmt.Sprintf("%s with %d", name, bad), id, e, 0, api.ErrArg)
	}
	if l, e := z.List(bad); len(l) != 0 || e != api.ErrArg {
		t.Fatalf("List(%d) = %v, %d", bad, l, e)
	}
	if n := z.Count(bad); n != 0 {
		t.Fatalf("Count(%d) = %d", bad, n)
	}
	if n := z.Size(bad); n != 0 {
		t.Fatalf("Size(%d) = %d", bad, n)
	}
}

// TestNil is about P8.1 to P8.3: a nil diagram, in each call.
func TestNil(t *testing.T) {
	var z *zdd.Zdd
	for _, n := range append([]int{0, 1, 2, 3}, odd...) {
		refuses(t, z, n)
		for _, other := range []int{0, 1, n} {
			id, e := z.With(other, n)
			returns(t, fmt.Sprintf("With(%d, %d)", other, n), id, e, 0, api.ErrArg)
			id, e = z.Without(other, n)
			returns(t, fmt.Sprintf("Without(%d, %d)", other, n), id, e, 0, api.ErrArg)
			id, e = z.Of([]int{n, other})
			returns(t, fmt.Sprintf("Of(%d, %d)", n, other), id, e, 0, api.ErrArg)
		}
	}
	for _, l := range [][]int{nil, {}, {0}, {0, 0}} {
		id, e := z.Of(l)
		returns(t, fmt.Sprintf("Of(%v)", l), id, e, 0, api.ErrArg)
	}
}

// TestUnused is about P8.1 to P8.3: ids that are not used, in diagrams with and without room, beside ids that are.
func TestUnused(t *testing.T) {
	for _, room := range []int{0, 1, 3, 24} {
		z, x, f := diagram(t, room), fam(1<<24-1<<(24-room)), 0 // one member, of as many items as there is room for
		if room > 0 {
			f = of(t, z, x)
			represents(t, z, f, x)
		}
		for _, bad := range append([]int{room + 2, room + 3, 20001, 20002}, odd...) {
			refuses(t, z, bad)
			for name, do := range map[string]func(f, g int) (int, api.Errno){"Union": z.Union, "Meet": z.Meet, "Less": z.Less, "Join": z.Join} {
				id, e := do(f, bad)
				returns(t, fmt.Sprintf("%s(%d, %d)", name, f, bad), id, e, 0, api.ErrArg)
				id, e = do(bad, f)
				returns(t, fmt.Sprintf("%s(%d, %d)", name, bad, f), id, e, 0, api.ErrArg)
			}
		}
		if room > 0 {
			represents(t, z, f, x)
		}
	}
}

// TestNoMember is about P8.1: numbers that are no members, alone and before and after others, also where there is no room for those.
func TestNoMember(t *testing.T) {
	for _, room := range []int{0, 1, 20000} {
		z := diagram(t, room)
		for _, bad := range odd {
			for _, l := range [][]int{{bad}, {0, bad}, {bad, 0}, {bad, bad}, {5, bad, 1<<24 - 1}, {7, 7, 7, bad}} {
				id, e := z.Of(l)
				returns(t, fmt.Sprintf("Of(%v)", l), id, e, 0, api.ErrArg)
			}
		}
		represents(t, z, of(t, z, fam(0)), fam(0))
	}
}

// TestNoItem is about P8.2: items below 0 and from 24 on, for ends as well as for a node; 0 and 23 are items.
func TestNoItem(t *testing.T) {
	z := diagram(t, 200)
	x := fam(0, 1, 1<<23, 1<<23+1, 1<<24-1)
	f := of(t, z, x)
	for _, id := range []int{0, 1, f} {
		for _, item := range append([]int{24, 25, 32, 63, 64, 65, 1 << 8}, odd...) {
			got, e := z.With(id, item)
			returns(t, fmt.Sprintf("With(%d, %d)", id, item), got, e, 0, api.ErrArg)
			got, e = z.Without(id, item)
			returns(t, fmt.Sprintf("Without(%d, %d)", id, item), got, e, 0, api.ErrArg)
		}
		for _, item := range []int{0, 23} {
			y, _ := z.List(id)
			represents(t, z, ok(t, "With", func() (int, api.Errno) { return z.With(id, item) }), with(y, item))
			represents(t, z, ok(t, "Without", func() (int, api.Errno) { return z.Without(id, item) }), without(y, item))
		}
	}
	represents(t, z, f, x)
}

// TestEnds is about P8.1 to P8.3: 0 has no members and 1 only the empty one, in each call, and no node is needed for them.
func TestEnds(t *testing.T) {
	z := diagram(t, 0)
	for _, l := range [][]int{nil, {}, make([]int, 0, 9)} {
		id, e := z.Of(l)
		returns(t, "Of of nothing", id, e, 0, api.OK)
	}
	for _, l := range [][]int{{0}, {0, 0}, make([]int, 300)} {
		id, e := z.Of(l)
		returns(t, "Of of the empty member", id, e, 1, api.OK)
	}
	for f := range 2 {
		id, e := z.Least(f)
		returns(t, fmt.Sprintf("Least(%d)", f), id, e, f, api.OK)
		for item := range 24 {
			id, e = z.With(f, item)
			returns(t, fmt.Sprintf("With(%d, %d)", f, item), id, e, 0, api.OK)
			id, e = z.Without(f, item)
			returns(t, fmt.Sprintf("Without(%d, %d)", f, item), id, e, f, api.OK)
		}
		for g := range 2 {
			id, e = z.Union(f, g)
			returns(t, fmt.Sprintf("Union(%d, %d)", f, g), id, e, max(f, g), api.OK)
			id, e = z.Meet(f, g)
			returns(t, fmt.Sprintf("Meet(%d, %d)", f, g), id, e, min(f, g), api.OK)
			id, e = z.Less(f, g)
			returns(t, fmt.Sprintf("Less(%d, %d)", f, g), id, e, f*(1-g), api.OK)
			id, e = z.Join(f, g)
			returns(t, fmt.Sprintf("Join(%d, %d)", f, g), id, e, f*g, api.OK)
		}
	}
}

// TestOf is about P8.1 and P8.4: all families of three items, the lowest and the highest among them; listed in other orders and twice they have the same id, and no two have the same.
func TestOf(t *testing.T) {
	for _, items := range [][]int{{0, 1, 2}, {0, 11, 23}, {21, 22, 23}} {
		z, seen := diagram(t, 20000), map[int]int{}
		for k := range 256 {
			x := numbered(k, items...)
			id := of(t, z, x)
			represents(t, z, id, x)
			if (id == 0) != (k == 0) || (id == 1) != (k == 1) {
				t.Fatalf("Of(%v) = %d", x, id)
			}
			if other, ok := seen[id]; ok {
				t.Fatalf("Of(%v) = %d, as for %v", x, id, numbered(other, items...))
			}
			seen[id] = k
			back := slices.Clone(x)
			slices.Reverse(back)
			for _, l := range [][]int{back, append(slices.Clone(x), x...), append(back, x...)} {
				got, e := z.Of(l)
				returns(t, fmt.Sprintf("Of(%v)", l), got, e, id, api.OK)
			}
		}
		for id, k := range seen {
			represents(t, z, id, numbered(k, items...))
		}
	}
}

// TestMembers is about P8.1: each member of one item and of all but one, the greatest and the least one, alone and together.
func TestMembers(t *testing.T) {
	const every = 1<<24 - 1
	z := diagram(t, 20000)
	all := []int{0, every}
	for item := range 24 {
		all = append(all, 1<<item, every-1<<item)
		for _, x := range []family{fam(1 << item), fam(every - 1<<item), fam(0, 1<<item), fam(every, every-1<<item)} {
			represents(t, z, of(t, z, x), x)
		}
	}
	for _, x := range []family{fam(0), fam(every), fam(0, every), fam(1, 1<<23, 1<<23+1, every)} {
		represents(t, z, of(t, z, x), x)
	}
	wide := diagram(t, 20000)
	represents(t, wide, of(t, wide, fam(all...)), fam(all...))
}

// TestPairs is about P8.2 and P8.4: each two families of three items; the results are the ids of the families that the model names.
func TestPairs(t *testing.T) {
	const many = 256
	items := []int{0, 11, 23}
	z, byMembers := diagram(t, 20000), map[string]int{}
	var families [many]family
	var ids [many]int
	for k := range ids {
		families[k] = numbered(k, items...)
		ids[k] = of(t, z, families[k])
		byMembers[fmt.Sprint(families[k])] = ids[k]
	}
	for f := range many {
		for g := range many {
			id, e := z.Union(ids[f], ids[g])
			returns(t, fmt.Sprintf("Union of %d, %d", f, g), id, e, ids[f|g], api.OK)
			id, e = z.Meet(ids[f], ids[g])
			returns(t, fmt.Sprintf("Meet of %d, %d", f, g), id, e, ids[f&g], api.OK)
			id, e = z.Less(ids[f], ids[g])
			returns(t, fmt.Sprintf("Less of %d, %d", f, g), id, e, ids[f&(many-1-g)], api.OK)
			id, e = z.Join(ids[f], ids[g])
			returns(t, fmt.Sprintf("Join of %d, %d", f, g), id, e, byMembers[fmt.Sprint(join(families[f], families[g]))], api.OK)
		}
	}
	for f := range many {
		represents(t, z, ids[f], families[f])
	}
}

// TestItems is about P8.2 and P8.5: each family of three items, with each item; both parts together are the family.
func TestItems(t *testing.T) {
	for _, items := range [][]int{{0, 1, 2}, {0, 11, 23}} {
		z := diagram(t, 20000)
		for k := range 256 {
			x := numbered(k, items...)
			f := of(t, z, x)
			for item := range 24 {
				one := ok(t, "With", func() (int, api.Errno) { return z.With(f, item) })
				represents(t, z, one, with(x, item))
				other := ok(t, "Without", func() (int, api.Errno) { return z.Without(f, item) })
				represents(t, z, other, without(x, item))
				again := ok(t, "Join", func() (int, api.Errno) { return z.Join(one, of(t, z, fam(1<<item))) })
				id, e := z.Union(again, other)
				returns(t, fmt.Sprintf("%v, put together of its parts for item %d", x, item), id, e, f, api.OK)
			}
		}
	}
}

// TestLeast is about P8.3 and P8.6: all families of four items.
func TestLeast(t *testing.T) {
	for k := range 1 << 16 {
		z, x := diagram(t, 20000), numbered(k, 0, 5, 6, 23)
		f := of(t, z, x)
		id := ok(t, "Least", func() (int, api.Errno) { return z.Least(f) })
		got, e := z.List(id)
		if e != api.OK || !slices.Equal(got, least(x)) {
			t.Fatalf("Least of %v: %v, %d", x, got, e)
		}
		for _, m := range x {
			if !slices.ContainsFunc(got, func(n int) bool { return contains(m, n) }) {
				t.Fatalf("Least of %v: none is contained in %d", x, m)
			}
		}
		if k%64 == 0 {
			again, e := z.Least(id)
			returns(t, "Least, twice", again, e, id, api.OK)
			represents(t, z, f, x)
		}
	}
}

// TestListed is about P8.1: 100000 members are listed, and one more are not, but counted; so are many more.
func TestListed(t *testing.T) {
	for _, shift := range []int{0, 7} {
		var l []int
		for m := range 100000 {
			l = append(l, m<<shift)
		}
		z := diagram(t, 20000)
		f := of(t, z, l)
		got, e := z.List(f)
		if !slices.Equal(got, l) || e != api.OK || z.Count(f) != 100000 {
			t.Fatalf("shifted by %d: List returns %d members, %d; Count %d", shift, len(got), e, z.Count(f))
		}
		for _, more := range []int{1<<24 - 1, 100000 << shift} {
			g := of(t, z, append(l, more))
			got, e = z.List(g)
			if len(got) != 0 || e != api.ErrFull || z.Count(g) != 100001 {
				t.Fatalf("shifted by %d, and %d: List returns %d members, %d; Count %d", shift, more, len(got), e, z.Count(g))
			}
			h := ok(t, "Less", func() (int, api.Errno) { return z.Less(g, of(t, z, fam(0))) })
			got, e = z.List(h)
			if !slices.Equal(got, append(slices.Clone(l[1:]), more)) || e != api.OK {
				t.Fatalf("shifted by %d, and %d, without 0: List returns %d members, %d", shift, more, len(got), e)
			}
		}
	}
	var l []int
	for m := range 1 << 20 {
		l = append(l, m<<4)
	}
	z := diagram(t, 20000)
	f := of(t, z, l)
	got, e := z.List(f)
	if len(got) != 0 || e != api.ErrFull || z.Count(f) != 1<<20 || z.Size(f) != 20 {
		t.Errorf("all sets of 20 items: List returns %d members, %d; Count %d; Size %d", len(got), e, z.Count(f), z.Size(f))
	}
}

// TestSize is about P8.1: nodes that are reached in two ways count once, the node itself counts, ends do not.
func TestSize(t *testing.T) {
	z := diagram(t, 20000)
	for _, c := range []struct {
		members []int
		size    int
	}{
		{nil, 0}, {[]int{0}, 0}, {[]int{1}, 1}, {[]int{1 << 23}, 1}, {[]int{0, 1 << 23}, 1}, {[]int{3}, 2}, {[]int{1<<24 - 1}, 24},
		{[]int{0, 1, 2, 3}, 2}, {[]int{1, 2}, 2}, {[]int{1, 2, 4}, 3}, {[]int{0, 1, 2, 3, 4, 5, 6, 7}, 3}, {[]int{3, 5, 6}, 4}, {[]int{5, 1, 4}, 3}, {[]int{5, 6}, 3}, {[]int{0, 5, 6, 3}, 4},
	} {
		id := of(t, z, fam(c.members...))
		if n := z.Size(id); n != c.size {
			t.Errorf("Size of %v: %d, not %d", c.members, n, c.size)
		}
	}
}

// TestMade is about P8.4: the same family, made in different ways, has the same id.
func TestMade(t *testing.T) {
	next := random(84)
	for range 60 {
		z := diagram(t, 20000)
		x, y := mixedFamily(next, 8, 0, 7), mixedFamily(next, 8, 0, 7)
		f, g := of(t, z, x), of(t, z, y)
		two := func(do func(f, g int) (int, api.Errno), f, g int) int {
			t.Helper()
			return ok(t, "a call", func() (int, api.Errno) { return do(f, g) })
		}
		all, both := two(z.Union, f, g), two(z.Meet, f, g)
		for name, c := range map[string][2]int{
			"union, of the members":   {of(t, z, union(x, y)), all},
			"union, turned":           {two(z.Union, g, f), all},
			"union, in three parts":   {two(z.Union, two(z.Union, two(z.Less, f, g), both), two(z.Less, g, f)), all},
			"union, again":            {two(z.Union, all, g), all},
			"meet, of the members":    {of(t, z, meet(x, y)), both},
			"meet, turned":            {two(z.Meet, g, f), both},
			"meet, by less":           {two(z.Less, f, two(z.Less, f, g)), both},
			"meet, of the union":      {two(z.Meet, f, all), f},
			"join, turned":            {two(z.Join, f, g), two(z.Join, g, f)},
			"join, of the members":    {two(z.Join, f, g), of(t, z, join(x, y))},
			"join, with nothing":      {two(z.Join, f, 0), 0},
			"join, with the empty":    {two(z.Join, f, 1), f},
			"join, one after another": {two(z.Join, f, two(z.Union, g, 1)), two(z.Union, two(z.Join, f, g), f)},
			"less, nothing of it":     {two(z.Less, f, 0), f},
			"less, all of it":         {two(z.Less, f, f), 0},
		} {
			returns(t, fmt.Sprintf("%s, for %v and %v", name, x, y), c[0], api.OK, c[1], api.OK)
		}
	}
}

// TestExample is about P8.2 and P8.3: the examples of the chapter and of the document.
func TestExample(t *testing.T) {
	z := diagram(t, 100)
	f := of(t, z, fam(5, 1, 4))
	represents(t, z, ok(t, "Least", func() (int, api.Errno) { return z.Least(f) }), fam(1, 4))
	id, e := z.Join(of(t, z, fam(1)), of(t, z, fam(4)))
	returns(t, "Join of 1 and 4", id, e, of(t, z, fam(5)), api.OK)
}
