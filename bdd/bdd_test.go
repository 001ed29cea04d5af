package bdd_test

import (
	"fmt"
	"math"
	"slices"
	"testing"

	"drawknife/api"
	"drawknife/bdd"
)

// odd are numbers that are no ids, no inputs and no capacities.
var odd = []int{-1, -2, -3, -8, -64, -20000, 20001, 20002, 20003, 65536, math.MaxInt32, math.MinInt32, math.MaxInt, math.MaxInt - 1, math.MinInt, math.MinInt + 1, math.MinInt + 2}

// TestNew is about P6.1: orders of 0, 1, 8 inputs, and all edges of a capacity.
func TestNew(t *testing.T) {
	for _, order := range [][]int{nil, {}, {0}, {0, 1}, {1, 0}, {7, 6, 5, 4, 3, 2, 1, 0}, {3, 0, 7, 1, 5, 2, 6, 4}} {
		for _, room := range []int{0, 1, 2, 19999, 20000} {
			b := diagram(t, order, room)
			represents(t, b, order, 0, points{})
			represents(t, b, order, 1, pick(len(order), func(int) bool { return true }))
			if _, e := b.Set(2); e != api.ErrArg {
				t.Errorf("New(%v, %d): there is a node", order, room)
			}
		}
		for _, room := range odd {
			if b, e := bdd.New(order, room); b != nil || e != api.ErrArg {
				t.Errorf("New(%v, %d) = %v, %d", order, room, b, e)
			}
		}
	}
}

// TestNoOrder is about P6.1: lists that are no orders, alone and with a capacity that is not permitted either.
func TestNoOrder(t *testing.T) {
	bad := [][]int{{1}, {-1}, {8}, {0, 0}, {1, 1}, {0, 2}, {2, 0}, {-1, 0}, {0, -1}, {0, 1, 2, 2}, {3, 1, 2, 3}, {1, 2, 3}, {0, 1, 3}, {0, 1, 2, 3, 4, 5, 6, 8}, {0, 1, 2, 3, 4, 5, 6, -1}, {0, 1, 2, 3, 4, 5, 6, 6}, {0, 1, 2, 3, 4, 5, 6, 7, 8}, {8, 7, 6, 5, 4, 3, 2, 1, 0}, {0, 1, 2, 3, 4, 5, 6, 7, 7}, {0, 1, 2, 3, 4, 5, 6, 7, -1}, make([]int, 300)}
	for _, n := range odd {
		bad = append(bad, []int{n}, []int{n, 0}, []int{1, 0, n})
	}
	for _, order := range bad {
		for _, room := range []int{-1, 0, 1, 500, 20000, 20001} {
			if b, e := bdd.New(order, room); b != nil || e != api.ErrArg {
				t.Errorf("New(%v, %d) = %v, %d", order, room, b, e)
			}
		}
	}
}

// TestSmallOrders is about P6.1: all lists of up to four numbers from -1 to 4.
func TestSmallOrders(t *testing.T) {
	lists := [][]int{{}}
	for at := 0; at < len(lists); at++ {
		l := lists[at]
		want := api.ErrArg
		if slices.ContainsFunc(orders(len(l)), func(o []int) bool { return slices.Equal(o, l) }) {
			want = api.OK
		}
		if b, e := bdd.New(l, 9); e != want || (b != nil) != (want == api.OK) {
			t.Errorf("New(%v, 9) = %v, %d", l, b, e)
		}
		for x := -1; x <= 4 && len(l) < 4; x++ {
			lists = append(lists, append(slices.Clone(l), x))
		}
	}
}

// TestNil is about P6.1 to P6.3: a nil diagram, in each call.
func TestNil(t *testing.T) {
	var b *bdd.Bdd
	for _, n := range append([]int{0, 1, 2, 3}, odd...) {
		refuses(t, b, n)
		for _, other := range []int{0, 1, n} {
			id, e := b.Ite(n, other, 0)
			returns(t, fmt.Sprintf("Ite(%d, %d, 0)", n, other), id, e, 0, api.ErrArg)
			id, e = b.Some(other, n)
			returns(t, fmt.Sprintf("Some(%d, %d)", other, n), id, e, 0, api.ErrArg)
		}
		b.Sweep([]int{n, 0, n})
	}
	b.Sweep(nil)
	for _, s := range []api.Set{{}, {1}, {3}, {0, 0, 0, 1}} {
		id, e := b.Of(s)
		returns(t, fmt.Sprintf("Of(%v)", s), id, e, 0, api.ErrArg)
	}
}

// refuses checks that an id is refused at each place of each call.
func refuses(t *testing.T, b *bdd.Bdd, bad int) {
	t.Helper()
	for name, do := range map[string]func() (int, api.Errno){
		"Not(x)":       func() (int, api.Errno) { return b.Not(bad) },
		"And(x, 0)":    func() (int, api.Errno) { return b.And(bad, 0) },
		"And(0, x)":    func() (int, api.Errno) { return b.And(0, bad) },
		"And(x, x)":    func() (int, api.Errno) { return b.And(bad, bad) },
		"Or(x, 1)":     func() (int, api.Errno) { return b.Or(bad, 1) },
		"Or(1, x)":     func() (int, api.Errno) { return b.Or(1, bad) },
		"Or(x, x)":     func() (int, api.Errno) { return b.Or(bad, bad) },
		"Ite(x, 1, 1)": func() (int, api.Errno) { return b.Ite(bad, 1, 1) },
		"Ite(0, x, 1)": func() (int, api.Errno) { return b.Ite(0, bad, 1) },
		"Ite(1, 0, x)": func() (int, api.Errno) { return b.Ite(1, 0, bad) },
		"Ite(x, x, x)": func() (int, api.Errno) { return b.Ite(bad, bad, bad) },
		"Some(x, 0)":   func() (int, api.Errno) { return b.Some(bad, 0) },
		"Some(x, -1)":  func() (int, api.Errno) { return b.Some(bad, -1) },
	} {
		id, e := do()
		returns(t, fmt.Sprintf("%s with %d", name, bad), id, e, 0, api.ErrArg)
	}
	if s, e := b.Set(bad); s != (api.Set{}) || e != api.ErrArg {
		t.Fatalf("Set(%d) = %v, %d", bad, s, e)
	}
	if n := b.Size(bad); n != 0 {
		t.Fatalf("Size(%d) = %d", bad, n)
	}
}

// TestUnused is about P6.1 to P6.3: ids that are not used, in diagrams with and without room, beside ids that are.
func TestUnused(t *testing.T) {
	for _, room := range []int{0, 1, 3, 20000} {
		b := diagram(t, []int{2, 0, 1}, room)
		for _, id := range append([]int{2, 3, 4, 5, 6}, odd...) {
			refuses(t, b, id)
		}
		if room == 0 {
			continue
		}
		x := of(t, b, numbered(3, 0xaa))
		for _, bad := range append([]int{x + 1, x + 2, x + room}, odd...) {
			refuses(t, b, bad)
			for _, l := range [][3]int{{bad, x, 0}, {x, bad, x}, {x, x, bad}, {bad, bad, x}} {
				id, e := b.Ite(l[0], l[1], l[2])
				returns(t, fmt.Sprintf("Ite%v", l), id, e, 0, api.ErrArg)
			}
		}
	}
}

// TestEnds is about P6.1 to P6.3: 0 is no point and 1 is all points, in each call, and no node is needed for them.
func TestEnds(t *testing.T) {
	for n := range 9 {
		order := orders(min(n, 3))[0]
		for len(order) < n {
			order = append(order, len(order))
		}
		b := diagram(t, order, 0)
		for id, x := range []points{{}, pick(n, func(int) bool { return true })} {
			represents(t, b, order, id, x)
			got, e := b.Of(x.set())
			returns(t, "Of", got, e, id, api.OK)
			got, e = b.Not(id)
			returns(t, "Not", got, e, 1-id, api.OK)
			for input := range n {
				got, e = b.Some(id, input)
				returns(t, "Some", got, e, id, api.OK)
			}
			for other := range 2 {
				got, e = b.And(id, other)
				returns(t, "And", got, e, min(id, other), api.OK)
				got, e = b.Or(id, other)
				returns(t, "Or", got, e, max(id, other), api.OK)
				got, e = b.Ite(id, other, 1-other)
				returns(t, "Ite", got, e, map[bool]int{true: 1}[id == other], api.OK)
			}
		}
	}
}

// TestBeyond is about P6.1: each point beyond those of n inputs is refused, alone and with others; the ones before it are not.
func TestBeyond(t *testing.T) {
	for n := range 9 {
		order := mixedOrder(random(uint32(n)), n)
		b := diagram(t, order, 20000)
		for p := range 256 {
			alone := pick(8, func(q int) bool { return p == q })
			if p < 1<<n {
				represents(t, b, order, of(t, b, alone), alone)
				continue
			}
			for _, x := range []points{alone, pick(8, func(q int) bool { return q <= p }), pick(8, func(int) bool { return true })} {
				id, e := b.Of(x.set())
				returns(t, fmt.Sprintf("%d inputs: Of(%v)", n, x.set()), id, e, 0, api.ErrArg)
			}
		}
	}
}

// TestOf is about P6.1, P6.3 and P6.4: all sets of up to three inputs, in all orders; each has one id, and needs the nodes that the model counts.
func TestOf(t *testing.T) {
	for n := range 4 {
		for _, order := range orders(n) {
			m := start(t, order, 20000)
			for range 2 {
				for k := range 1 << (1 << n) {
					x := numbered(n, k)
					id, e := m.b.Of(x.set())
					m.take(fmt.Sprintf("Of(%d)", k), id, e, x)
				}
			}
			m.check()
			if len(m.sets) != 1<<(1<<n) {
				t.Errorf("order %v: %d sets have ids", order, len(m.sets))
			}
		}
	}
}

// TestOnlyNeeded is about P6.1: a set finds room in as many nodes as it needs, and in no fewer: then the result is ErrNode.
func TestOnlyNeeded(t *testing.T) {
	next := random(61)
	for n := range 9 {
		for range 40 {
			order, x := mixedOrder(next, n), mixedSet(next, n)
			needed := len(need(order, x))
			b := diagram(t, order, needed)
			represents(t, b, order, of(t, b, x), x)
			represents(t, b, order, of(t, b, x), x)
			if needed > 0 {
				id, e := diagram(t, order, needed-1).Of(x.set())
				returns(t, fmt.Sprintf("order %v: Of(%v), of %d nodes", order, x.set(), needed), id, e, 0, api.ErrNode)
			}
		}
	}
}

// TestPairs is about P6.2 and P6.4: each two sets of three inputs, in all orders; the results are the ids of the sets that the model names.
func TestPairs(t *testing.T) {
	const n, many = 3, 256
	for _, order := range orders(n) {
		b := diagram(t, order, 20000)
		var ids [many]int
		for k := range ids {
			ids[k] = of(t, b, numbered(n, k))
		}
		for f := range many {
			id, e := b.Not(ids[f])
			returns(t, fmt.Sprintf("order %v: Not of %d", order, f), id, e, ids[many-1-f], api.OK)
			for g := range many {
				id, e = b.And(ids[f], ids[g])
				returns(t, fmt.Sprintf("order %v: And of %d, %d", order, f, g), id, e, ids[f&g], api.OK)
				id, e = b.Or(ids[f], ids[g])
				returns(t, fmt.Sprintf("order %v: Or of %d, %d", order, f, g), id, e, ids[f|g], api.OK)
			}
		}
	}
}

// TestTriples is about P6.2 and P6.4: each three sets of up to two inputs, in both orders.
func TestTriples(t *testing.T) {
	for n := range 3 {
		for _, order := range orders(n) {
			b := diagram(t, order, 20000)
			many := 1 << (1 << n)
			ids := make([]int, many)
			for k := range ids {
				ids[k] = of(t, b, numbered(n, k))
			}
			for f := range many {
				for g := range many {
					for h := range many {
						id, e := b.Ite(ids[f], ids[g], ids[h])
						returns(t, fmt.Sprintf("order %v: Ite of %d, %d, %d", order, f, g, h), id, e, ids[f&g|(many-1-f)&h], api.OK)
					}
				}
			}
		}
	}
}

// TestSome is about P6.2: each set of three inputs, with each input, in all orders.
func TestSome(t *testing.T) {
	const n = 3
	for _, order := range orders(n) {
		b := diagram(t, order, 20000)
		for k := range 256 {
			x := numbered(n, k)
			f := of(t, b, x)
			for input := range n {
				id, e := b.Some(f, input)
				if e != api.OK {
					t.Fatalf("order %v: Some of %d, %d: %d", order, k, input, e)
				}
				want := some(n, x, input)
				represents(t, b, order, id, want)
				returns(t, "Some", id, e, of(t, b, want), api.OK)
			}
		}
	}
}

// TestNoInput is about P6.2: inputs of -1, of n and beyond, for an end as well as for a node; n - 1 is one.
func TestNoInput(t *testing.T) {
	for n := range 9 {
		order := mixedOrder(random(uint32(n)), n)
		b := diagram(t, order, 600)
		ids := []int{0, 1}
		if n > 0 {
			ids = append(ids, of(t, b, pick(n, func(p int) bool { return p == 1 })))
			id, e := b.Some(1, n-1)
			returns(t, "Some", id, e, 1, api.OK)
		}
		for _, f := range ids {
			for _, input := range append([]int{n, n + 1, 8, 9, 64, 1 << 8}, odd...) {
				id, e := b.Some(f, input)
				returns(t, fmt.Sprintf("%d inputs: Some(%d, %d)", n, f, input), id, e, 0, api.ErrArg)
			}
		}
	}
}

// TestMade is about P6.4: the same set, made in different ways, has the same id.
func TestMade(t *testing.T) {
	next := random(64)
	try := func(id int, e api.Errno) int {
		if e != api.OK {
			t.Fatalf("error %d", e)
		}
		return id
	}
	for n := 1; n <= 8; n++ {
		order := mixedOrder(next, n)
		for range 20 {
			b := diagram(t, order, 20000)
			x, y := mixedSet(next, n), mixedSet(next, n)
			f, g, all := of(t, b, x), of(t, b, y), try(b.Not(0))
			both := try(b.And(f, g))
			ways := []int{
				of(t, b, and(n, x, y)),
				try(b.And(g, f)),
				try(b.Ite(f, g, 0)),
				try(b.Ite(g, f, 0)),
				try(b.Not(try(b.Or(try(b.Not(f)), try(b.Not(g)))))),
				try(b.And(try(b.Or(f, g)), both)),
				try(b.Ite(all, both, f)),
				try(b.Ite(try(b.Not(f)), 0, g)),
				try(b.Ite(f, both, both)),
			}
			for i, id := range ways {
				returns(t, fmt.Sprintf("order %v: way %d to both of %v, %v", order, i, x.set(), y.set()), id, api.OK, both, api.OK)
			}
			input := next(n)
			one, two := try(b.Some(f, input)), try(b.Some(try(b.Some(f, input)), input))
			returns(t, "Some, twice", two, api.OK, one, api.OK)
			returns(t, "Some, of the model", of(t, b, some(n, x, input)), api.OK, one, api.OK)
		}
	}
}

// TestOrders is about P6.1 and P6.5: a set is the same in two orders, and needs the nodes that the model counts for each.
func TestOrders(t *testing.T) {
	next := random(65)
	for n := range 9 {
		for range 60 {
			x := mixedSet(next, n)
			for range 2 {
				order := mixedOrder(next, n)
				b := diagram(t, order, 20000)
				represents(t, b, order, of(t, b, x), x)
			}
		}
	}
	x := pick(8, func(p int) bool {
		return bit(p, 0) && bit(p, 1) || bit(p, 2) && bit(p, 3) || bit(p, 4) && bit(p, 5) || bit(p, 6) && bit(p, 7)
	})
	for _, c := range []struct {
		order []int
		size  int
	}{{[]int{0, 1, 2, 3, 4, 5, 6, 7}, 8}, {[]int{7, 6, 1, 0, 4, 5, 2, 3}, 8}, {[]int{0, 2, 4, 6, 1, 3, 5, 7}, 30}} {
		b := diagram(t, c.order, c.size)
		if id := of(t, b, x); b.Size(id) != c.size {
			t.Errorf("order %v: Size is %d, not %d", c.order, b.Size(id), c.size)
		}
		represents(t, b, c.order, of(t, b, x), x)
	}
}

// TestCapacity is about P6.5: the same calls represent the same sets, and each needs as many nodes, with any capacity in which there is room.
func TestCapacity(t *testing.T) {
	for seed := range uint32(12) {
		order := mixedOrder(random(seed), 5)
		next := random(seed)
		var sets []points
		for range 6 {
			sets = append(sets, mixedSet(next, 5))
		}
		sets = append(sets, and(5, sets[0], sets[1]), not(5, sets[2]), some(5, sets[3], 4), ite(5, sets[4], sets[5], sets[0]))
		needed := len(need(order, sets...))
		for _, room := range []int{needed, needed + 1, 2 * needed, 500, 20000} {
			b := diagram(t, order, room)
			var f []int
			for _, x := range sets[:6] {
				f = append(f, of(t, b, x))
			}
			for _, do := range []func() (int, api.Errno){
				func() (int, api.Errno) { return b.And(f[0], f[1]) },
				func() (int, api.Errno) { return b.Not(f[2]) },
				func() (int, api.Errno) { return b.Some(f[3], 4) },
				func() (int, api.Errno) { return b.Ite(f[4], f[5], f[0]) },
			} {
				id, e := do()
				if e != api.OK {
					t.Fatalf("order %v, room %d of %d: error %d", order, room, needed, e)
				}
				f = append(f, id)
			}
			for i, id := range f {
				represents(t, b, order, id, sets[i])
			}
		}
	}
}

// TestSize is about P6.3: nodes that are reached in two ways count once, the node itself counts, ends do not.
func TestSize(t *testing.T) {
	order := []int{0, 1, 2, 3, 4, 5, 6, 7}
	b := diagram(t, order, 20000)
	for n := 1; n <= 8; n++ {
		odd := pick(8, func(p int) bool {
			ones := 0
			for input := range n {
				if bit(p, input) {
					ones++
				}
			}
			return ones%2 == 1
		})
		if got := b.Size(of(t, b, odd)); got != 2*n-1 {
			t.Errorf("Size of what is odd in %d inputs: %d", n, got)
		}
	}
	for _, id := range []int{0, 1} {
		if b.Size(id) != 0 {
			t.Errorf("Size(%d) = %d", id, b.Size(id))
		}
	}
}

// TestSizes is about P6.5: what else there is in a diagram does not change how many nodes a set needs.
func TestSizes(t *testing.T) {
	next := random(653)
	order := mixedOrder(next, 6)
	b := diagram(t, order, 20000)
	x := mixedSet(next, 6)
	id := of(t, b, x)
	for range 50 {
		y := mixedSet(next, 6)
		represents(t, b, order, of(t, b, y), y)
		represents(t, b, order, id, x)
	}
}

// TestExample is about P6.1 and P6.3: the examples of the chapter and of the document.
func TestExample(t *testing.T) {
	for _, order := range [][]int{{0, 1}, {1, 0}} {
		b := diagram(t, order, 1)
		x := numbered(2, 0b1010)
		id := of(t, b, x)
		if id < 2 || b.Size(id) != 1 {
			t.Errorf("order %v: Of = %d, Size %d", order, id, b.Size(id))
		}
		represents(t, b, order, id, x)
	}
}
