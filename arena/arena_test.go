package arena_test

import (
	"fmt"
	"math"
	"slices"
	"testing"

	"drawknife/api"
	"drawknife/arena"
)

// A triple is the level, low and high of a node.
type triple [3]int

// A model does what the chapter says in the plainest way: it has what each id stands for, and looks everything up anew.
type model struct {
	room  int
	nodes map[int]triple
}

// level is that of an end or of a node; less than any for an id that is not used.
func (m model) level(id int) int {
	if id == 0 || id == 1 {
		return 24
	}
	if n, ok := m.nodes[id]; ok {
		return n[0]
	}
	return math.MinInt
}

func (m model) make(n triple) (int, api.Errno) {
	if n[0] < 0 || n[0] > 23 || m.level(n[1]) <= n[0] || m.level(n[2]) <= n[0] {
		return 0, api.ErrArg
	}
	for id, x := range m.nodes {
		if x == n {
			return id, api.OK
		}
	}
	if len(m.nodes) == m.room {
		return 0, api.ErrNode
	}
	id := 2
	for m.level(id) >= 0 {
		id++
	}
	m.nodes[id] = n
	return id, api.OK
}

// reach is what can be reached from the ids, in increasing order: it adds lows and highs till there is no new one.
func (m model) reach(ids []int) []int {
	var l []int
	for more := ids; len(more) > 0; {
		var next []int
		for _, id := range more {
			if n, ok := m.nodes[id]; ok && !slices.Contains(l, id) {
				l = append(l, id)
				next = append(next, n[1], n[2])
			}
		}
		more = next
	}
	slices.Sort(l)
	return l
}

func (m model) sweep(keep []int) {
	left := m.reach(keep)
	for id := range m.nodes {
		if !slices.Contains(left, id) {
			delete(m.nodes, id)
		}
	}
}

// A step is a call: Make of a triple, or, without one, Sweep.
type step struct {
	node *triple
	keep []int
}

func (s step) String() string {
	if s.node != nil {
		return fmt.Sprintf("Make%v", *s.node)
	}
	return fmt.Sprintf("Sweep%v", s.keep)
}

// made is an arena with a model of it.
type made struct {
	t     *testing.T
	a     *arena.Arena
	m     model
	steps []step // what was done, for the message
}

func start(t *testing.T, room int) *made {
	t.Helper()
	a, e := arena.New(room)
	if a == nil || e != api.OK {
		t.Fatalf("New(%d) = %v, %d", room, a, e)
	}
	return &made{t: t, a: a, m: model{room, map[int]triple{}}}
}

// do takes a step in both, and compares what Make returns.
func (x *made) do(s step) {
	x.t.Helper()
	x.steps = append(x.steps, s)
	if s.node == nil {
		x.a.Sweep(s.keep)
		x.m.sweep(s.keep)
		return
	}
	n := *s.node
	id, e := x.a.Make(n[0], n[1], n[2])
	if want, we := x.m.make(n); id != want || e != we {
		x.t.Fatalf("capacity %d, after %v: Make returns %d, %d, not %d, %d", x.m.room, x.steps, id, e, want, we)
	}
}

// compare compares all that can be seen of both.
func (x *made) compare() {
	x.t.Helper()
	if got := x.a.Len(); got != len(x.m.nodes) || got > x.m.room {
		x.t.Fatalf("capacity %d, after %v: Len() = %d, not %d", x.m.room, x.steps, got, len(x.m.nodes))
	}
	for id := -2; id < x.m.room+5; id++ {
		want, there := x.m.nodes[id]
		l, low, high, ok := x.a.Node(id)
		if (triple{l, low, high}) != want || ok != there {
			x.t.Fatalf("capacity %d, after %v: Node(%d) = %d, %d, %d, %v, not %v, %v", x.m.room, x.steps, id, l, low, high, ok, want, there)
		}
		if got, want := x.a.Reach(id), x.m.reach([]int{id}); !slices.Equal(got, want) {
			x.t.Fatalf("capacity %d, after %v: Reach(%d) = %v, not %v", x.m.room, x.steps, id, got, want)
		}
	}
}

// makes makes nodes that are new, and checks that they have the ids from 2 on.
func makes(t *testing.T, a *arena.Arena, nodes ...triple) {
	t.Helper()
	for i, n := range nodes {
		if id, e := a.Make(n[0], n[1], n[2]); id != i+2 || e != api.OK {
			t.Fatalf("Make%v = %d, %d, not %d", n, id, e, i+2)
		}
	}
}

// expects checks what Make returns for one node.
func expects(t *testing.T, a *arena.Arena, n triple, id int, e api.Errno) {
	t.Helper()
	if got, ge := a.Make(n[0], n[1], n[2]); got != id || ge != e {
		t.Errorf("Make%v = %d, %d, not %d, %d", n, got, ge, id, e)
	}
}

// holds checks which nodes there are, by their ids.
func holds(t *testing.T, a *arena.Arena, want map[int]triple) {
	t.Helper()
	if a.Len() != len(want) {
		t.Errorf("Len() = %d, not %d", a.Len(), len(want))
	}
	for id := -3; id < 40; id++ {
		n, there := want[id]
		if l, low, high, ok := a.Node(id); (triple{l, low, high}) != n || ok != there {
			t.Errorf("Node(%d) = %d, %d, %d, %v, not %v, %v", id, l, low, high, ok, n, there)
		}
	}
}

// odd are numbers that are neither ids, levels nor capacities.
var odd = []int{-1, -2, -3, -24, -64, -20000, 20001, 20002, 20003, 65536, math.MaxInt32, math.MinInt32, math.MaxInt, math.MaxInt - 1, math.MinInt, math.MinInt + 1, math.MinInt + 2}

// TestNew is about P5.1: all edges of a capacity.
func TestNew(t *testing.T) {
	for _, room := range []int{0, 1, 2, 3, 64, 19999, 20000} {
		a, e := arena.New(room)
		if a == nil || e != api.OK {
			t.Fatalf("New(%d) = %v, %d", room, a, e)
		}
		holds(t, a, nil)
		want := api.OK
		if room == 0 {
			want = api.ErrNode
		}
		if id, e := a.Make(3, 0, 1); e != want || (id == 2) != (room > 0) {
			t.Errorf("capacity %d: Make = %d, %d", room, id, e)
		}
	}
	for _, room := range odd {
		if a, e := arena.New(room); a != nil || e != api.ErrArg {
			t.Errorf("New(%d) = %v, %d", room, a, e)
		}
	}
}

// TestNil is about P5.1 and P5.2: a nil arena, in each call.
func TestNil(t *testing.T) {
	var a *arena.Arena
	for _, n := range append([]int{0, 1, 2, 3, 23}, odd...) {
		expects(t, a, triple{n, 0, 1}, 0, api.ErrArg)
		expects(t, a, triple{5, n, 1}, 0, api.ErrArg)
		if l, low, high, ok := a.Node(n); l != 0 || low != 0 || high != 0 || ok {
			t.Errorf("Node(%d) = %d, %d, %d, %v", n, l, low, high, ok)
		}
		if l := a.Reach(n); len(l) != 0 {
			t.Errorf("Reach(%d) = %v", n, l)
		}
		a.Sweep([]int{n, 2, n})
	}
	a.Sweep(nil)
	if a.Len() != 0 {
		t.Errorf("Len() = %d", a.Len())
	}
}

// TestLevels is about P5.1: each level from 0 to MaxItems - 1, and none beside.
func TestLevels(t *testing.T) {
	a, _ := arena.New(api.MaxNodes)
	want := map[int]triple{}
	for level := -30; level < 60; level++ {
		if level < 0 || level >= 24 {
			expects(t, a, triple{level, 0, 1}, 0, api.ErrArg)
			continue
		}
		want[level+2] = triple{level, 0, 1}
		expects(t, a, triple{level, 0, 1}, level+2, api.OK)
	}
	for _, level := range odd {
		expects(t, a, triple{level, 0, 1}, 0, api.ErrArg)
		expects(t, a, triple{level, 1, 1}, 0, api.ErrArg)
	}
	holds(t, a, want)
}

// TestBelow is about P5.1: a low and a high must be an end, or a node with a greater level.
func TestBelow(t *testing.T) {
	nodes := []triple{{4, 0, 1}, {5, 0, 1}, {6, 0, 1}, {23, 1, 0}, {0, 2, 5}} // the ids 2 to 6
	right := []int{0, 1, 4, 5}                                                // for level 5
	ids := append([]int{0, 1, 2, 3, 4, 5, 6, 7, 8, 22, 23, 24}, odd...)
	for _, low := range ids {
		for _, high := range ids {
			a, _ := arena.New(9)
			makes(t, a, nodes...)
			n := triple{5, low, high}
			switch {
			case low == 0 && high == 1:
				expects(t, a, n, 3, api.OK) // it is there
			case slices.Contains(right, low) && slices.Contains(right, high):
				expects(t, a, n, 7, api.OK)
			default:
				expects(t, a, n, 0, api.ErrArg)
			}
		}
	}
}

// TestAlike is about P5.1: low and high may be the same; and which is low, which is high, tells nodes apart.
func TestAlike(t *testing.T) {
	a, _ := arena.New(20)
	makes(t, a, triple{23, 0, 0}, triple{23, 1, 1}, triple{23, 0, 1}, triple{23, 1, 0}, triple{22, 0, 1}, triple{22, 2, 2}, triple{22, 2, 3}, triple{22, 3, 2}, triple{0, 9, 9}, triple{0, 0, 0})
	expects(t, a, triple{0, 11, 11}, 0, api.ErrArg)
	expects(t, a, triple{22, 2, 2}, 7, api.OK)
}

// TestBackAgain is about P5.1 and P5.3: a node that is there is found, also when the arena is full; what is not permitted is told first.
func TestBackAgain(t *testing.T) {
	nodes := []triple{{9, 0, 1}, {8, 2, 1}, {8, 0, 2}, {3, 4, 3}}
	a, _ := arena.New(4)
	makes(t, a, nodes...)
	for range 3 {
		makes(t, a, nodes...)
		expects(t, a, triple{9, 1, 0}, 0, api.ErrNode)
		expects(t, a, triple{0, 5, 5}, 0, api.ErrNode)
		expects(t, a, triple{24, 0, 1}, 0, api.ErrArg)
		expects(t, a, triple{-1, 0, 1}, 0, api.ErrArg)
		expects(t, a, triple{9, 2, 1}, 0, api.ErrArg)
		expects(t, a, triple{9, 0, 6}, 0, api.ErrArg)
		expects(t, a, triple{9, -1, 0}, 0, api.ErrArg)
		holds(t, a, map[int]triple{2: nodes[0], 3: nodes[1], 4: nodes[2], 5: nodes[3]})
	}
}

// TestSmallest is about P5.1: the gaps that a sweep left are filled, the smallest first, and again after the next sweep.
func TestSmallest(t *testing.T) {
	a, _ := arena.New(7)
	for level := range 6 {
		expects(t, a, triple{level, 0, 1}, level+2, api.OK)
	}
	a.Sweep([]int{3, 6}) // the ids 2, 4, 5 and 7 are left
	expects(t, a, triple{10, 0, 1}, 2, api.OK)
	expects(t, a, triple{11, 0, 1}, 4, api.OK)
	expects(t, a, triple{10, 0, 1}, 2, api.OK)
	a.Sweep([]int{4, 6}) // 2 once more, and 3
	expects(t, a, triple{12, 0, 1}, 2, api.OK)
	expects(t, a, triple{11, 0, 1}, 4, api.OK)
	expects(t, a, triple{13, 0, 1}, 3, api.OK)
	expects(t, a, triple{14, 0, 1}, 5, api.OK)
	expects(t, a, triple{15, 0, 1}, 7, api.OK)
	expects(t, a, triple{16, 0, 1}, 8, api.OK)
	expects(t, a, triple{17, 0, 1}, 0, api.ErrNode)
	holds(t, a, map[int]triple{2: {12, 0, 1}, 3: {13, 0, 1}, 4: {11, 0, 1}, 5: {14, 0, 1}, 6: {4, 0, 1}, 7: {15, 0, 1}, 8: {16, 0, 1}})
}

// TestSweep is about P5.2 and P5.3: what is left after a sweep with no ids, ends, ids that are not used, the same twice, and nodes that reach others.
func TestSweep(t *testing.T) {
	nodes := []triple{{20, 0, 1}, {20, 1, 0}, {10, 2, 3}, {10, 0, 2}, {5, 4, 4}, {5, 1, 5}} // the ids 2 to 7
	for _, c := range []struct{ keep, left []int }{
		{nil, nil},
		{[]int{}, nil},
		{[]int{0, 1}, nil},
		{[]int{1, 0, 1, 0}, nil},
		{[]int{8, 9, 10, 20000, 20001}, nil},
		{odd, nil},
		{[]int{2}, []int{2}},
		{[]int{3, 3, 3}, []int{3}},
		{[]int{3, 0, 99, -1, 3}, []int{3}},
		{[]int{5}, []int{2, 5}},
		{[]int{4}, []int{2, 3, 4}},
		{[]int{6}, []int{2, 3, 4, 6}},
		{[]int{7, 7}, []int{2, 5, 7}},
		{[]int{7, 3}, []int{2, 3, 5, 7}},
		{[]int{6, 7, 6}, []int{2, 3, 4, 5, 6, 7}},
		{[]int{7, 6, 5, 4, 3, 2, 1, 0}, []int{2, 3, 4, 5, 6, 7}},
	} {
		a, _ := arena.New(6)
		makes(t, a, nodes...)
		keep := slices.Clone(c.keep)
		a.Sweep(c.keep)
		if !slices.Equal(c.keep, keep) {
			t.Errorf("Sweep(%v) changes its ids: %v", keep, c.keep)
		}
		want := map[int]triple{}
		for _, id := range c.left {
			want[id] = nodes[id-2]
			expects(t, a, nodes[id-2], id, api.OK)
		}
		holds(t, a, want)
	}
}

// TestSwept is about P5.2 and P5.3: an id that was swept stands for nothing, nor can a node lead to it, till it is used again.
func TestSwept(t *testing.T) {
	a, _ := arena.New(3)
	makes(t, a, triple{20, 0, 1}, triple{20, 1, 0}, triple{10, 3, 3})
	a.Sweep([]int{4})
	holds(t, a, map[int]triple{3: {20, 1, 0}, 4: {10, 3, 3}})
	if l := a.Reach(2); len(l) != 0 {
		t.Errorf("Reach(2) = %v", l)
	}
	expects(t, a, triple{7, 2, 4}, 0, api.ErrArg)
	expects(t, a, triple{7, 4, 2}, 0, api.ErrArg)
	expects(t, a, triple{10, 3, 3}, 4, api.OK)
	expects(t, a, triple{7, 4, 3}, 2, api.OK)
	expects(t, a, triple{7, 2, 4}, 0, api.ErrArg) // it is used again, for a node of the same level
	expects(t, a, triple{6, 2, 4}, 0, api.ErrNode)
	a.Sweep(nil)
	for id := range 10 {
		if l := a.Reach(id); len(l) != 0 {
			t.Errorf("Reach(%d) = %v, in an arena without nodes", id, l)
		}
	}
	holds(t, a, nil)
	makes(t, a, triple{6, 0, 1}, triple{20, 1, 0}, triple{5, 2, 3})
}

// TestAllZero is about P5.1 to P5.3: the node whose values are all 0 is a node as others are, not a gap, also beside gaps.
func TestAllZero(t *testing.T) {
	a, _ := arena.New(5)
	makes(t, a, triple{3, 0, 0}, triple{2, 0, 0}, triple{1, 0, 0}, triple{0, 0, 0})
	for _, keep := range [][]int{{5}, {5, 2}, {3, 5, 5}} {
		a.Sweep(keep)
		holds(t, a, map[int]triple{5: {0, 0, 0}})
		expects(t, a, triple{0, 0, 0}, 5, api.OK)
		if l := a.Reach(5); !slices.Equal(l, []int{5}) {
			t.Errorf("Reach(5) = %v", l)
		}
	}
	a.Sweep([]int{2, 3, 4, 6})
	holds(t, a, nil)
	expects(t, a, triple{0, 0, 0}, 2, api.OK)
}

// TestReach is about P5.2: the node and what it reaches, each id once, in increasing order, also where a node has a smaller id than those it leads to.
func TestReach(t *testing.T) {
	a, _ := arena.New(9)
	makes(t, a, triple{23, 0, 1}, triple{20, 1, 0}, triple{20, 2, 2}, triple{20, 0, 2}, triple{20, 2, 1})
	a.Sweep([]int{4, 5, 6}) // not 3
	expects(t, a, triple{9, 6, 4}, 3, api.OK)
	expects(t, a, triple{8, 3, 5}, 7, api.OK)
	expects(t, a, triple{7, 7, 3}, 8, api.OK)
	expects(t, a, triple{7, 0, 1}, 9, api.OK)
	for id, want := range map[int][]int{2: {2}, 3: {2, 3, 4, 6}, 4: {2, 4}, 5: {2, 5}, 6: {2, 6}, 7: {2, 3, 4, 5, 6, 7}, 8: {2, 3, 4, 5, 6, 7, 8}, 9: {9}, 0: nil, 1: nil, 10: nil, 11: nil} {
		if got := a.Reach(id); !slices.Equal(got, want) {
			t.Errorf("Reach(%d) = %v, not %v", id, got, want)
		}
	}
	for _, id := range odd {
		if l := a.Reach(id); len(l) != 0 {
			t.Errorf("Reach(%d) = %v", id, l)
		}
		if l, low, high, ok := a.Node(id); l != 0 || low != 0 || high != 0 || ok {
			t.Errorf("Node(%d) = %d, %d, %d, %v", id, l, low, high, ok)
		}
	}
}

// few are the steps of which all short lists are taken.
func few() []step {
	var l []step
	for _, level := range []int{0, 1, 23} {
		for low := range 4 {
			for high := range 4 {
				l = append(l, step{node: &triple{level, low, high}})
			}
		}
	}
	for _, keep := range [][]int{nil, {2}, {3}, {4}, {3, 2}, {4, 4}, {1, 5, 2}} {
		l = append(l, step{keep: keep})
	}
	return l
}

// TestShortLists is about P5.1 to P5.4: all lists of three of the few steps.
func TestShortLists(t *testing.T) {
	l := few()
	for room := range 4 {
		for i := range l {
			for j := range l {
				for k := range l {
					x := start(t, room)
					x.do(l[i])
					x.do(l[j])
					x.do(l[k])
					x.compare()
				}
			}
		}
	}
}

// random returns a function whose next number is below n.
func random(seed uint32) func(n int) int {
	return func(n int) int {
		seed = seed*1664525 + 1013904223
		return int(seed>>16) % n
	}
}

// mixed is a step for an arena of a capacity: mostly Make, mostly with ids that may be used; seldom Sweep.
func mixed(next func(n int) int, room, levels int) step {
	if next(room+3) == 0 {
		keep := make([]int, next(4))
		for i := range keep {
			keep[i] = next(room+4) - 1
		}
		return step{keep: keep}
	}
	level := 24 - levels + next(levels)
	switch next(30) {
	case 0:
		level = -1
	case 1:
		level = 24
	}
	return step{node: &triple{level, next(room+4) - 1, next(room+4) - 1}}
}

// TestMixed is about P5.1 to P5.4: long lists of steps, in arenas of many capacities.
func TestMixed(t *testing.T) {
	next := random(5)
	for room := range 30 {
		for _, levels := range []int{2, 5, 24} {
			x := start(t, room)
			for range 400 {
				x.do(mixed(next, room, levels))
				x.compare()
			}
		}
	}
}

// all are so many nodes in an order in which they can be made, in an arena without any, where the node at place i has id i + 2.
func all(n int) []triple {
	var l []triple
	for level := 23; ; level-- {
		ids := len(l) + 2
		for low := range ids {
			for high := range ids {
				if len(l) == n {
					return l
				}
				l = append(l, triple{level, low, high})
			}
		}
	}
}

// TestFull is about P5.1, P5.3 and P5.4: as many nodes as there may be, and one more.
func TestFull(t *testing.T) {
	const n = 20000
	nodes := all(n + 1)
	for _, room := range []int{n, n - 1} {
		a, _ := arena.New(room)
		makes(t, a, nodes[:room]...)
		for _, x := range nodes[room:] {
			expects(t, a, x, 0, api.ErrNode)
		}
		if a.Len() != room {
			t.Errorf("Len() = %d, not %d", a.Len(), room)
		}
		makes(t, a, nodes[:room]...)
		if _, _, _, ok := a.Node(room + 2); ok {
			t.Errorf("Node(%d), of %d nodes", room+2, room)
		}
		if l, low, high, ok := a.Node(room + 1); (triple{l, low, high}) != nodes[room-1] || !ok {
			t.Errorf("Node(%d) = %d, %d, %d, %v", room+1, l, low, high, ok)
		}
		m := model{nodes: map[int]triple{}}
		for i, x := range nodes[:room] {
			m.nodes[i+2] = x
		}
		left := m.reach([]int{room + 1, 2})
		a.Sweep([]int{room + 1, 2})
		if a.Len() != len(left) {
			t.Errorf("Len() = %d after a sweep that leaves %v", a.Len(), left)
		}
		for _, id := range left {
			expects(t, a, nodes[id-2], id, api.OK)
		}
		makes(t, a, nodes[:room]...) // each fills the gap it left, as those before it are there again
	}
}

// TestDeep is about P5.2: a node that leads to one of each greater level, along very many ways.
func TestDeep(t *testing.T) {
	a, _ := arena.New(48)
	var ids []int
	low, high := 0, 1
	for level := 23; level >= 0; level-- {
		x, _ := a.Make(level, low, high)
		y, e := a.Make(level, high, low)
		if e != api.OK {
			t.Fatalf("Make, level %d: %d", level, e)
		}
		low, high = x, y
		ids = append(ids, x, y)
	}
	if got := a.Reach(high); !slices.Equal(got, append(slices.Clone(ids[:46]), high)) {
		t.Errorf("Reach(%d) = %v", high, got)
	}
	a.Sweep([]int{high})
	if a.Len() != 47 {
		t.Errorf("Len() = %d", a.Len())
	}
}

// TestMemory is about P0 (R3): what Reach returns is new, spare capacity included, and Sweep keeps none of its ids.
func TestMemory(t *testing.T) {
	a, _ := arena.New(9)
	nodes := []triple{{20, 0, 1}, {20, 1, 0}, {10, 2, 3}, {10, 0, 2}, {5, 4, 4}}
	makes(t, a, nodes...)
	keep := append(make([]int, 0, 9), 6, 2)
	a.Sweep(keep)
	left := map[int]triple{2: nodes[0], 3: nodes[1], 4: nodes[2], 6: nodes[4]}
	one, two := a.Reach(6), a.Reach(6)
	for _, l := range [][]int{keep, one} {
		l = l[:cap(l)]
		for i := range l {
			l[i] = -7
		}
	}
	holds(t, a, left)
	if want := []int{2, 3, 4, 6}; !slices.Equal(two, want) || !slices.Equal(a.Reach(6), want) {
		t.Errorf("Reach(6) = %v, then %v", two, a.Reach(6))
	}
	if keep = keep[:2]; keep[0] != -7 || keep[1] != -7 {
		t.Errorf("an arena writes to ids that it was given: %v", keep)
	}
}

// TestLook is about P0 (R3): the calls that only look change nothing, nor does a Make that is refused.
func TestLook(t *testing.T) {
	x := start(t, 3)
	for _, n := range []triple{{9, 0, 1}, {8, 2, 1}, {7, 3, 2}} {
		x.do(step{node: &n})
	}
	x.do(step{keep: []int{3}})
	for range 3 {
		x.compare()
		x.do(step{node: &triple{9, 4, 0}})
		x.do(step{node: &triple{24, 0, 0}})
	}
	x.do(step{node: &triple{6, 3, 0}})
	x.do(step{node: &triple{5, 3, 0}})
	x.compare()
}

// TestApart is about P0 (R4): arenas do not know of each other, and the same steps return the same.
func TestApart(t *testing.T) {
	for seed := range uint32(20) {
		one, two := start(t, 6), start(t, 6)
		next, again := random(seed), random(seed)
		other, elsewhere := start(t, 9), random(seed+99)
		for range 60 {
			one.do(mixed(next, 6, 5))
			other.do(mixed(elsewhere, 9, 24))
			two.do(mixed(again, 6, 5))
		}
		one.compare()
		two.compare()
		other.compare()
	}
}

// TestExample is about P5.1: the example of the chapter.
func TestExample(t *testing.T) {
	a, _ := arena.New(2)
	expects(t, a, triple{5, 0, 1}, 2, api.OK)
	expects(t, a, triple{3, 2, 1}, 3, api.OK)
	expects(t, a, triple{5, 0, 1}, 2, api.OK)
	expects(t, a, triple{4, 0, 1}, 0, api.ErrNode)
}
