package order_test

import (
	"math"
	"slices"
	"testing"

	"drawknife/api"
	"drawknife/order"
)

// odd are numbers that are no inputs, no places and no numbers of inputs.
var odd = []int{-1, -2, -8, -64, 9, 10, 64, 256, 20000, math.MaxInt32, math.MinInt32, math.MaxInt, math.MaxInt - 1, math.MinInt, math.MinInt + 1}

// noOrders are lists in which an input is missing, is there twice or is none, and a list of too many.
func noOrders() [][]int {
	l := [][]int{{1}, {-1}, {8}, {0, 0}, {1, 1}, {0, 2}, {2, 0}, {-1, 0}, {0, -1}, {0, 1, 1}, {2, 0, 2}, {1, 2, 3}, {0, 1, 3}, {0, 1, -1}, {0, 1, 2, 3, 4, 5, 6, 8}, {0, 1, 2, 3, 4, 5, 6, -1}, {0, 1, 2, 3, 4, 5, 6, 6}, {0, 1, 2, 3, 4, 5, 6, 7, 8}, {8, 7, 6, 5, 4, 3, 2, 1, 0}, {0, 1, 2, 3, 4, 5, 6, 7, 7}, make([]int, 300)}
	for _, n := range odd {
		l = append(l, []int{n}, []int{n, 0}, []int{1, 0, n})
	}
	return l
}

// points says a set point by point, so that what is expected rests on no diagram.
type points [256]bool

// pick are those points of n inputs for which in is true.
func pick(n int, in func(p int) bool) points {
	var x points
	for p := range 1 << n {
		x[p] = in(p)
	}
	return x
}

// numbered are the points that are 1 in the binary digits of k.
func numbered(n, k int) points {
	return pick(n, func(p int) bool { return k>>p&1 == 1 })
}

// every has all points of n inputs.
func every(n int) points {
	return pick(n, func(int) bool { return true })
}

func (x points) set() api.Set {
	var s api.Set
	for p, in := range x {
		if in {
			s[p/64] += 1 << (p % 64)
		}
	}
	return s
}

func sets(l []points) []api.Set {
	var s []api.Set
	for _, x := range l {
		s = append(s, x.set())
	}
	return s
}

// bit is that of an input in a point.
func bit(p, input int) bool {
	return p>>input%2 == 1
}

// text is 1 for each point in the set and 0 for the others, in an order in which the input at place 0 differs between the halves of the text, that at place 1 between their halves, and so on.
func (x points) text(o []int) string {
	t := make([]byte, 1<<len(o))
	for i := range t {
		p := 0
		for place, input := range o {
			if bit(i, len(o)-1-place) {
				p += 1 << input
			}
		}
		t[i] = '0'
		if x[p] {
			t[i] = '1'
		}
	}
	return string(t)
}

// nodes adds to l the nodes that a text needs, each told by the text of what it represents: of it and of its halves, their halves, and so on, those whose halves differ.
func nodes(l map[string]int, text string) {
	if len(text) == 1 {
		return
	}
	low, high := text[:len(text)/2], text[len(text)/2:]
	if low != high {
		l[text] = 1
	}
	nodes(l, low)
	nodes(l, high)
}

// need is the size of the sets, by the model.
func need(o []int, l []points) int {
	sum := 0
	for _, x := range l {
		one := map[string]int{}
		nodes(one, x.text(o))
		sum += len(one)
	}
	return sum
}

// put is the order with the input at the place, and the others in the other places from the left, by the model.
func put(o []int, input, place int) []int {
	l := make([]int, len(o))
	at := 0
	for _, other := range o {
		if other == input {
			continue
		}
		if at == place {
			at++
		}
		l[at] = other
		at++
	}
	l[place] = input
	return l
}

// sifted is the order after so many rounds, by the model.
func sifted(o []int, l []points, rounds int) []int {
	for range rounds {
		for input := range len(o) {
			var sizes []int
			for place := range len(o) {
				sizes = append(sizes, need(put(o, input, place), l))
			}
			o = put(o, input, slices.Index(sizes, slices.Min(sizes)))
		}
	}
	return o
}

// orders are all orders of n inputs.
func orders(n int) [][]int {
	if n == 0 {
		return [][]int{{}}
	}
	var l [][]int
	for _, o := range orders(n - 1) {
		for place := range n {
			l = append(l, slices.Insert(slices.Clone(o), place, n-1))
		}
	}
	return l
}

// random returns a function whose next number is below n.
func random(seed uint32) func(n int) int {
	state := uint64(seed)
	return func(n int) int {
		state = state*6364136223846793005 + 1442695040888963407
		return int(state>>33) % n
	}
}

// mixedOrder is some order of n inputs.
func mixedOrder(next func(n int) int, n int) []int {
	o := []int{}
	for input := range n {
		o = slices.Insert(o, next(len(o)+1), input)
	}
	return o
}

// mixedSet is some set: of few, of half or of most points, or one whose size depends much on the order.
func mixedSet(next func(n int) int, n int) points {
	switch kind := next(4); kind {
	case 3:
		o := mixedOrder(next, n)
		return pick(n, func(p int) bool {
			for i := 0; i+1 < n; i += 2 {
				if bit(p, o[i]) && bit(p, o[i+1]) {
					return true
				}
			}
			return false
		})
	default:
		many := []int{1, 8, 15}[kind]
		return pick(n, func(p int) bool { return next(16) < many })
	}
}

// mixedSets are up to MaxOut of them.
func mixedSets(next func(n int) int, n int) []points {
	var l []points
	for range next(api.MaxOut + 1) {
		l = append(l, mixedSet(next, n))
	}
	return l
}

// pairs has the points in which both inputs of a pair are 1: inputs 0 and 1, or 2 and 3, and so on.
func pairs(n int) points {
	return pick(n, func(p int) bool {
		for i := 0; i < n; i += 2 {
			if bit(p, i) && bit(p, i+1) {
				return true
			}
		}
		return false
	})
}

// hasSize checks a size, and that the arguments stay as they were.
func hasSize(t *testing.T, s []api.Set, o []int, want int, we api.Errno) {
	t.Helper()
	oldSets, oldOrder := slices.Clone(s), slices.Clone(o)
	n, e := order.Size(s, o)
	if n != want || e != we {
		t.Fatalf("Size(%v, %v) = %d, %d, not %d, %d", s, o, n, e, want, we)
	}
	stay(t, s, oldSets, o, oldOrder)
}

// moves checks what an input moved to a place returns.
func moves(t *testing.T, o []int, input, place int, want []int, we api.Errno) {
	t.Helper()
	old := slices.Clone(o)
	l, e := order.Move(o, input, place)
	if !slices.Equal(l, want) || e != we {
		t.Fatalf("Move(%v, %d, %d) = %v, %d, not %v, %d", o, input, place, l, e, want, we)
	}
	stay(t, nil, nil, o, old)
}

// sifts checks what sifting returns.
func sifts(t *testing.T, s []api.Set, o []int, rounds int, want []int, we api.Errno) {
	t.Helper()
	oldSets, oldOrder := slices.Clone(s), slices.Clone(o)
	l, e := order.Sift(s, o, rounds)
	if !slices.Equal(l, want) || e != we {
		t.Fatalf("Sift(%v, %v, %d) = %v, %d, not %v, %d", s, o, rounds, l, e, want, we)
	}
	stay(t, s, oldSets, o, oldOrder)
}

// stay checks that nothing that was passed in has changed.
func stay(t *testing.T, s, oldSets []api.Set, o, oldOrder []int) {
	t.Helper()
	if !slices.Equal(s, oldSets) || !slices.Equal(o, oldOrder) {
		t.Fatalf("arguments have changed: from %v, %v to %v, %v", oldSets, oldOrder, s, o)
	}
}

// refuses checks that these sets and this list are no arguments of Size, nor of Sift with any rounds.
func refuses(t *testing.T, s []api.Set, o []int) {
	t.Helper()
	hasSize(t, s, o, 0, api.ErrArg)
	for _, rounds := range []int{math.MinInt, -1, 0, 1, 4, 5, math.MaxInt} {
		sifts(t, s, o, rounds, nil, api.ErrArg)
	}
}
