package order_test

import (
	"math"
	"slices"
	"testing"

	"drawknife/api"
	"drawknife/bdd"
	"drawknife/order"
)

// TestPlain is about P7.1: all numbers of inputs, and the numbers before and beyond them.
func TestPlain(t *testing.T) {
	for n, want := range [][]int{{}, {0}, {0, 1}, {0, 1, 2}, {0, 1, 2, 3}, {0, 1, 2, 3, 4}, {0, 1, 2, 3, 4, 5}, {0, 1, 2, 3, 4, 5, 6}, {0, 1, 2, 3, 4, 5, 6, 7}} {
		if l := order.Plain(n); !slices.Equal(l, want) {
			t.Errorf("Plain(%d) = %v", n, l)
		}
	}
	for _, n := range odd {
		if l := order.Plain(n); len(l) != 0 {
			t.Errorf("Plain(%d) = %v", n, l)
		}
	}
}

// TestMove is about P7.1: all inputs of all orders of up to five inputs, and of some of more, to all places, the one where the input is included.
func TestMove(t *testing.T) {
	var all [][]int
	for n := range 6 {
		all = append(all, orders(n)...)
	}
	next := random(71)
	for n := 6; n <= 8; n++ {
		for range 50 {
			all = append(all, mixedOrder(next, n))
		}
	}
	for _, o := range all {
		for at, input := range o {
			for place := range len(o) {
				moves(t, o, input, place, put(o, input, place), api.OK)
			}
			moves(t, o, input, at, o, api.OK)
		}
	}
}

// TestMoveLists is about P7.1: moves that are told by their lists.
func TestMoveLists(t *testing.T) {
	o := []int{3, 0, 7, 1, 5, 2, 6, 4}
	for _, c := range []struct {
		input, place int
		want         []int
	}{
		{3, 0, []int{3, 0, 7, 1, 5, 2, 6, 4}},
		{3, 7, []int{0, 7, 1, 5, 2, 6, 4, 3}},
		{4, 0, []int{4, 3, 0, 7, 1, 5, 2, 6}},
		{4, 7, []int{3, 0, 7, 1, 5, 2, 6, 4}},
		{1, 2, []int{3, 0, 1, 7, 5, 2, 6, 4}},
		{1, 4, []int{3, 0, 7, 5, 1, 2, 6, 4}},
		{7, 5, []int{3, 0, 1, 5, 2, 7, 6, 4}},
		{6, 1, []int{3, 6, 0, 7, 1, 5, 2, 4}},
	} {
		moves(t, o, c.input, c.place, c.want, api.OK)
	}
	moves(t, []int{0}, 0, 0, []int{0}, api.OK)
	moves(t, []int{1, 0}, 0, 0, []int{0, 1}, api.OK)
}

// TestMoveRefused is about P7.1: inputs that are not in the order, the places -1 and one beyond the last, and lists that are no orders.
func TestMoveRefused(t *testing.T) {
	next := random(72)
	for n := range 9 {
		o := mixedOrder(next, n)
		for _, bad := range append([]int{n, n + 1, 8}, odd...) {
			for good := range n {
				moves(t, o, bad, good, nil, api.ErrArg)
				moves(t, o, good, bad, nil, api.ErrArg)
			}
			moves(t, o, bad, bad, nil, api.ErrArg)
			moves(t, o, bad, 0, nil, api.ErrArg)
			moves(t, o, 0, bad, nil, api.ErrArg)
		}
	}
	moves(t, nil, 0, 0, nil, api.ErrArg)
	for _, l := range noOrders() {
		for _, input := range append(slices.Clone(l[:min(len(l), 9)]), 0, 1, -1) {
			for _, place := range []int{-1, 0, len(l) - 1, len(l)} {
				moves(t, l, input, place, nil, api.ErrArg)
			}
		}
	}
}

// TestSize is about P7.1: all sets of up to three inputs, in all orders.
func TestSize(t *testing.T) {
	for n := range 4 {
		for _, o := range orders(n) {
			for k := range 1 << (1 << n) {
				x := numbered(n, k)
				hasSize(t, []api.Set{x.set()}, o, need(o, []points{x}), api.OK)
			}
		}
	}
}

// TestSum is about P7.1: no set to MaxOut sets of all numbers of inputs; nodes that several need count for each of them.
func TestSum(t *testing.T) {
	next := random(73)
	for n := range 9 {
		for range 40 {
			o, l := mixedOrder(next, n), mixedSets(next, n)
			want := need(o, l)
			hasSize(t, sets(l), o, want, api.OK)
			slices.Reverse(l)
			hasSize(t, sets(l), o, want, api.OK)
		}
		o, x := mixedOrder(next, n), mixedSet(next, n)
		one := need(o, []points{x})
		for many := range api.MaxOut + 1 {
			hasSize(t, sets(slices.Repeat([]points{x}, many)), o, many*one, api.OK)
		}
	}
	hasSize(t, nil, nil, 0, api.OK)
	hasSize(t, []api.Set{}, []int{}, 0, api.OK)
}

// TestNumbers is about P7.1: sizes that are told by number.
func TestNumbers(t *testing.T) {
	plain := []int{0, 1, 2, 3, 4, 5, 6, 7}
	odds := pick(8, func(p int) bool {
		ones := 0
		for input := range 8 {
			if bit(p, input) {
				ones++
			}
		}
		return ones%2 == 1
	})
	for _, c := range []struct {
		l    []points
		o    []int
		size int
	}{
		{[]points{numbered(1, 2)}, []int{0}, 1},
		{[]points{numbered(1, 2), numbered(1, 1)}, []int{0}, 2},
		{[]points{numbered(2, 0b1010)}, []int{0, 1}, 1},
		{[]points{numbered(2, 0b1010)}, []int{1, 0}, 1},
		{[]points{pairs(8)}, plain, 8},
		{[]points{pairs(8)}, []int{7, 6, 1, 0, 4, 5, 2, 3}, 8},
		{[]points{pairs(8)}, []int{0, 2, 4, 6, 1, 3, 5, 7}, 30},
		{[]points{odds}, plain, 15},
		{[]points{odds, odds, pairs(8), every(8)}, plain, 38},
	} {
		hasSize(t, sets(c.l), c.o, c.size, api.OK)
	}
}

// TestEnds is about P7.1 and P7.2: the sets with no point and with all points need no node in any order.
func TestEnds(t *testing.T) {
	next := random(74)
	for n := range 9 {
		for range 5 {
			o := mixedOrder(next, n)
			for _, l := range [][]points{nil, {{}}, {every(n)}, {{}, every(n)}, {every(n), {}, {}, every(n)}} {
				hasSize(t, sets(l), o, 0, api.OK)
				sifts(t, sets(l), o, 0, o, api.OK)
				// All places are as good, so that each input goes to the first one.
				last := order.Plain(n)
				slices.Reverse(last)
				for rounds := 1; rounds <= 5; rounds++ {
					sifts(t, sets(l), o, rounds, last, api.OK)
				}
			}
		}
	}
}

// TestRefused is about P7.1 and P7.2: lists that are no orders, with and without sets.
func TestRefused(t *testing.T) {
	for _, o := range noOrders() {
		for _, s := range [][]api.Set{nil, {{}}, {{1}}, {{}, {1}, {2}, {3}}, make([]api.Set, api.MaxOut+1)} {
			refuses(t, s, o)
		}
	}
}

// TestTooMany is about P7.1 and P7.2: MaxOut sets are permitted, one more is not, whatever they are.
func TestTooMany(t *testing.T) {
	next := random(75)
	for n := range 9 {
		o, x := mixedOrder(next, n), mixedSet(next, n)
		for _, y := range []points{{}, x, every(n)} {
			l := sets(slices.Repeat([]points{y}, 300))
			if _, e := order.Size(l[:api.MaxOut], o); e != api.OK {
				t.Errorf("Size of MaxOut sets: %d", e)
			}
			if _, e := order.Sift(l[:api.MaxOut], o, 1); e != api.OK {
				t.Errorf("Sift of MaxOut sets: %d", e)
			}
			refuses(t, l[:api.MaxOut+1], o)
			refuses(t, l, o)
		}
	}
}

// TestBeyond is about P7.1 and P7.2: each point beyond those of the inputs is refused, in each of the sets.
func TestBeyond(t *testing.T) {
	next := random(76)
	for n := range 8 {
		o := mixedOrder(next, n)
		for p := 1 << n; p < 256; p++ {
			if p >= 1<<n+8 && p%37 != 0 && p != 255 {
				continue
			}
			x := mixedSet(next, n)
			x[p] = true
			for at := range api.MaxOut {
				l := slices.Repeat([]points{{true}}, api.MaxOut)
				l[at] = x
				refuses(t, sets(l), o)
				refuses(t, sets(l[:at+1]), o)
			}
		}
		hasSize(t, []api.Set{pick(n, func(p int) bool { return p == 1<<n-1 }).set()}, o, n, api.OK)
	}
}

// TestSift is about P7.2: all sets of up to three inputs, in all orders.
func TestSift(t *testing.T) {
	for n := range 4 {
		for _, o := range orders(n) {
			for k := range 1 << (1 << n) {
				l := []points{numbered(n, k)}
				for rounds := range 3 {
					sifts(t, sets(l), o, rounds, sifted(o, l, rounds), api.OK)
				}
			}
		}
	}
}

// TestMixed is about P7.2 and P7.3: no set to MaxOut sets of up to eight inputs, with each number of rounds. No round increases the size.
func TestMixed(t *testing.T) {
	next := random(77)
	for n := range 9 {
		many := 40 >> max(0, n-3)
		for range max(many, 3) {
			o, l := mixedOrder(next, n), mixedSets(next, n)
			want := o
			for rounds := range 5 {
				sifts(t, sets(l), o, rounds, want, api.OK)
				x := sifted(want, l, 1)
				if need(x, l) > need(want, l) {
					t.Fatalf("from %v to %v: the size grows", want, x)
				}
				if rounds < 4 {
					want = x
				}
			}
			sifts(t, sets(l), o, 5, want, api.OK)
		}
	}
}

// TestRounds is about P7.2: sets of which each round from 1 to 5 would change the order: below 0 counts as 0, above 4 as 4.
func TestRounds(t *testing.T) {
	o, l := []int{3, 1, 2, 4, 0}, []points{numbered(5, 1576659836)}
	behind := [][]int{o}
	for range 5 {
		behind = append(behind, sifted(behind[len(behind)-1], l, 1))
	}
	for i := range 5 {
		if slices.Equal(behind[i], behind[i+1]) {
			t.Fatalf("round %d changes nothing", i+1)
		}
	}
	for _, c := range []struct{ rounds, count int }{
		{math.MinInt, 0}, {-64, 0}, {-4, 0}, {-1, 0}, {0, 0}, {1, 1}, {2, 2}, {3, 3}, {4, 4}, {5, 4}, {6, 4}, {7, 4}, {64, 4}, {math.MaxInt, 4},
	} {
		sifts(t, sets(l), o, c.rounds, behind[c.count], api.OK)
	}
}

// TestFirst is about P7.2: of places with equally small sizes the first counts, also if the input is at another of them.
func TestFirst(t *testing.T) {
	for _, c := range []struct {
		l       []points
		o, want []int
	}{
		// Input 0 alone needs one node in each order: each input goes to the first place, the last one at the end.
		{[]points{numbered(2, 0b1010)}, []int{0, 1}, []int{1, 0}},
		{[]points{numbered(2, 0b1010)}, []int{1, 0}, []int{1, 0}},
		// Inputs 0 and 1 need two nodes in each order.
		{[]points{numbered(3, 0x88)}, []int{2, 0, 1}, []int{2, 1, 0}},
		// Input 0 chooses 1 or 2: three nodes if it is the first, whichever is next, and otherwise more.
		{[]points{numbered(3, 0xd8)}, []int{1, 2, 0}, []int{0, 2, 1}},
		// So does input 2 with 1 or 0: it is the first already, and the first place that is as good for the others is the one behind it.
		{[]points{numbered(3, 0xca)}, []int{2, 0, 1}, []int{2, 1, 0}},
	} {
		sifts(t, sets(c.l), c.o, 1, c.want, api.OK)
	}
}

// TestNeverMore is about P7.3: the size before and behind sifting, as Size tells it; where the order is bad it becomes smaller.
func TestNeverMore(t *testing.T) {
	next := random(78)
	size := func(s []api.Set, o []int) int {
		n, e := order.Size(s, o)
		if e != api.OK {
			t.Fatalf("Size(%v, %v): %d", s, o, e)
		}
		return n
	}
	for n := range 9 {
		for range 12 {
			o, s := mixedOrder(next, n), sets(mixedSets(next, n))
			before := size(s, o)
			for rounds := -1; rounds <= 5; rounds++ {
				x, e := order.Sift(s, o, rounds)
				if e != api.OK {
					t.Fatalf("Sift(%v, %v, %d): %d", s, o, rounds, e)
				}
				behind := size(s, x)
				if behind > before {
					t.Fatalf("Sift(%v, %v, %d) = %v: from %d to %d", s, o, rounds, x, before, behind)
				}
				before = behind
			}
		}
	}
	s := sets([]points{pairs(8)})
	for rounds, most := range []int{30, 8, 8, 8, 8} {
		x, e := order.Sift(s, []int{0, 2, 4, 6, 1, 3, 5, 7}, rounds)
		if n := size(s, x); n > most || e != api.OK {
			t.Errorf("%d rounds: %v, %d, %d", rounds, x, n, e)
		}
	}
}

// TestSamePoints is about P7.4: a set has the same points with each order, also with those that are moved and sifted.
func TestSamePoints(t *testing.T) {
	next := random(79)
	same := func(x points, o []int) {
		b, e := bdd.New(o, api.MaxNodes)
		if e != api.OK {
			t.Fatalf("New(%v): %d", o, e)
		}
		id, e := b.Of(x.set())
		if e != api.OK {
			t.Fatalf("order %v: Of(%v): %d", o, x.set(), e)
		}
		if s, e := b.Set(id); s != x.set() || e != api.OK {
			t.Fatalf("order %v: %v represents %v, %d", o, x.set(), s, e)
		}
		hasSize(t, []api.Set{x.set()}, o, b.Size(id), api.OK)
	}
	for n := range 9 {
		for range 20 {
			x, o := mixedSet(next, n), mixedOrder(next, n)
			same(x, o)
			same(x, order.Plain(n))
			for _, input := range o {
				l, e := order.Move(o, input, next(n))
				if e != api.OK {
					t.Fatalf("Move(%v): %d", o, e)
				}
				same(x, l)
			}
			l, e := order.Sift([]api.Set{x.set()}, o, 1)
			if e != api.OK {
				t.Fatalf("Sift(%v): %d", o, e)
			}
			same(x, l)
		}
	}
	for _, o := range orders(4) {
		same(mixedSet(next, 4), o)
	}
}

// TestRenamed is about P7.1 and P7.4: with an order a set needs as many nodes as, with the plain one, the set whose inputs are named by their places.
func TestRenamed(t *testing.T) {
	next := random(80)
	for n := range 9 {
		for range 30 {
			x, o := mixedSet(next, n), mixedOrder(next, n)
			renamed := pick(n, func(p int) bool {
				q := 0
				for place, input := range o {
					if bit(p, place) {
						q += 1 << input
					}
				}
				return x[q]
			})
			want, e := order.Size([]api.Set{renamed.set()}, order.Plain(n))
			hasSize(t, []api.Set{x.set()}, o, want, e)
		}
	}
}

// TestMemory is about P0 (R3): results are new memory, spare capacity included, and no argument is changed, nor what is behind it.
func TestMemory(t *testing.T) {
	back := []int{2, 0, 1, 77, 78, 79}
	sets := []api.Set{{0b10100110}, {0xca}, {}, {1, 2, 3, 4}}[:2]
	for _, do := range []func() []int{
		func() []int { l, _ := order.Move(back[:3], 2, 2); return l },
		func() []int { l, _ := order.Move(back[:3], 0, 1); return l },
		func() []int { l, _ := order.Move(back[:3], 1, 0); return l },
		func() []int { l, _ := order.Sift(sets, back[:3], 0); return l },
		func() []int { l, _ := order.Sift(sets, back[:3], 1); return l },
		func() []int { l, _ := order.Sift(sets, back[:3], 4); return l },
		func() []int { l, _ := order.Sift(nil, back[:3], 2); return l },
		func() []int { return order.Plain(3) },
	} {
		first, second := do(), do()
		want := slices.Clone(first)
		if len(first) != 3 || !slices.Equal(first, second) {
			t.Fatalf("%v, %v", first, second)
		}
		for i := range cap(first) {
			first[:cap(first)][i] = -5
		}
		if !slices.Equal(second, want) || !slices.Equal(do(), want) {
			t.Errorf("results share memory: %v, %v", second, want)
		}
		if !slices.Equal(back, []int{2, 0, 1, 77, 78, 79}) {
			t.Errorf("the order has changed: %v", back)
		}
		if !slices.Equal(sets[:4], []api.Set{{0b10100110}, {0xca}, {}, {1, 2, 3, 4}}) {
			t.Errorf("the sets have changed: %v", sets[:4])
		}
	}
	l, _ := order.Sift(sets, back[:3], 0)
	m, _ := order.Move(back[:3], 2, 0)
	copy(back, []int{0, 1, 2})
	if !slices.Equal(l, []int{2, 0, 1}) || !slices.Equal(m, []int{2, 0, 1}) {
		t.Errorf("a result is the argument: %v, %v", l, m)
	}
}

// TestAgain is about P0 (R4): the same call returns the same, whatever was called between.
func TestAgain(t *testing.T) {
	next := random(81)
	for n := range 8 {
		o, s := mixedOrder(next, n), sets(mixedSets(next, n))
		size, e := order.Size(s, o)
		l, we := order.Sift(s, o, 2)
		for range 3 {
			order.Sift(sets(mixedSets(next, n+1)), mixedOrder(next, n+1), 1)
			refuses(t, s, []int{0, 0})
			hasSize(t, s, o, size, e)
			sifts(t, s, o, 2, l, we)
		}
	}
}

// TestExample is about P7.1: the example of the chapter, and that of the document about order.
func TestExample(t *testing.T) {
	moves(t, []int{0, 1, 2}, 0, 2, []int{1, 2, 0}, api.OK)
	hasSize(t, []api.Set{{0b1010}}, []int{0, 1}, 1, api.OK)
	hasSize(t, []api.Set{{0b1010}}, []int{1, 0}, 1, api.OK)
}
