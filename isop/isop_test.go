package isop_test

import (
	"slices"
	"strings"
	"testing"

	"drawknife/api"
	"drawknife/isop"
	"drawknife/prime"
)

// hasSides checks both sides of s for input i, point by point.
func hasSides(t *testing.T, x list, i int) {
	t.Helper()
	full := slices.Concat(x, make(list, 256-len(x)))
	step := 1
	for range i {
		step *= 2
	}
	for k, one := range []bool{false, true} {
		want := pick(8, func(p int) bool { return full[p-p/step%2*step+k*step] }).set()
		if got := isop.Side(x.set(), i, one); got != want {
			t.Fatalf("Side(%v, %d, %v) = %v, not %v", x.set(), i, one, got, want)
		}
	}
}

// TestSide is about P12.1: all sets of up to three inputs, each single point, all but one, and mixed sets, for each input there is, also those from n on.
func TestSide(t *testing.T) {
	var l []list
	for n := range 4 {
		for k := range 1 << (1 << n) {
			l = append(l, pick(n, func(p int) bool { return k>>p%2 == 1 }))
		}
	}
	for one := range 256 {
		l = append(l, pick(8, func(p int) bool { return p == one }), pick(8, func(p int) bool { return p != one }))
	}
	for n := 4; n <= 8; n++ {
		l = append(l, mixed(n, random(uint32(n)))...)
	}
	for _, x := range l {
		for i := range 8 {
			hasSides(t, x, i)
		}
	}
}

// TestSideTold is about P12.1: sides that are told point by point, those of the inputs 0 and 7 among them.
func TestSideTold(t *testing.T) {
	full := ^uint64(0)
	for _, c := range []struct {
		s    api.Set
		i    int
		one  bool
		want api.Set
	}{
		{api.Set{2}, 0, true, api.Set{3}},
		{api.Set{2}, 0, false, api.Set{}},
		{api.Set{1}, 0, false, api.Set{3}},
		{api.Set{0b1110}, 0, false, api.Set{0b1100}},
		{api.Set{0b1110}, 0, true, api.Set{0b1111}},
		{api.Set{0b1110}, 1, false, api.Set{0b1010}},
		{api.Set{0b0100}, 1, true, api.Set{0b0101}},
		{api.Set{1}, 5, false, api.Set{1 + 1<<32}},
		{api.Set{1}, 6, false, api.Set{1, 1}},
		{api.Set{1}, 7, false, api.Set{1, 0, 1}},
		{api.Set{1}, 7, true, api.Set{}},
		{api.Set{0, 0, 0, 1 << 63}, 7, true, api.Set{0, 1 << 63, 0, 1 << 63}},
		{api.Set{0, 0, 0, 1 << 63}, 7, false, api.Set{}},
		{api.Set{0, 0, 0, 1 << 63}, 0, true, api.Set{0, 0, 0, 3 << 62}},
		{api.Set{full, full, 0, 0}, 7, false, api.Set{full, full, full, full}},
		{api.Set{full, full, 0, 0}, 7, true, api.Set{}},
		{api.Set{full, full, full, full}, 7, true, api.Set{full, full, full, full}},
		{api.Set{5, 6, 7, 8}, 7, true, api.Set{7, 8, 7, 8}},
		{api.Set{5, 6, 7, 8}, 6, false, api.Set{5, 5, 7, 7}},
	} {
		if got := isop.Side(c.s, c.i, c.one); got != c.want {
			t.Errorf("Side(%v, %d, %v) = %v, not %v", c.s, c.i, c.one, got, c.want)
		}
	}
}

// TestSideTwice is about P12.1: a side does not depend on its input, and a set that does not is each side of its own.
func TestSideTwice(t *testing.T) {
	for _, x := range mixed(8, random(12)) {
		for i := range 8 {
			for _, one := range []bool{false, true} {
				side := isop.Side(x.set(), i, one)
				for _, again := range []bool{false, true} {
					if got := isop.Side(side, i, again); got != side {
						t.Fatalf("Side(%v, %d, %v) = %v", side, i, again, got)
					}
				}
			}
		}
	}
}

// TestNoSide is about P12.1: numbers that are no inputs, 8 among them.
func TestNoSide(t *testing.T) {
	l := []list{none(8), every(8), every(0), every(3), pick(8, func(p int) bool { return p%3 == 0 })}
	for _, i := range append([]int{8}, odd...) {
		for _, x := range l {
			for _, one := range []bool{false, true} {
				if got := isop.Side(x.set(), i, one); got != (api.Set{}) {
					t.Fatalf("Side(%v, %d, %v) = %v", x.set(), i, one, got)
				}
			}
		}
	}
}

// TestCubes is about P12.1 and P12.2: all pairs of sets of up to three inputs, and mixed ones of up to eight.
func TestCubes(t *testing.T) {
	longest := 0
	calls(func(c call) {
		said := cover(c.on, c.may, c.n)
		c.hasCubes(t, said, grown(said, c.may, c.n))
		longest = max(longest, len(said))
	})
	if longest != 128 {
		t.Errorf("at most %d cubes", longest)
	}
}

// TestLists is about P12.1 and P12.2: covers that are told by their texts. First come the cubes with 0 for input 0, then those with 1, then those without it; and among these so for input 1, and so on.
func TestLists(t *testing.T) {
	for _, c := range []struct {
		n       int
		on, may string
		want    string
	}{
		{1, "10", "10", "0"},
		{1, "01", "01", "1"},
		{1, "01", "11", "-"},
		{2, "0111", "0111", "1- -1"},
		{2, "0001", "0011", "-1"},
		{2, "0001", "0101", "1-"},
		{2, "0001", "0111", "-1"},
		{2, "0010", "0111", "-1"},
		{2, "0100", "0111", "1-"},
		{2, "1001", "1001", "00 11"},
		{2, "0110", "0110", "01 10"},
		{2, "1001", "1011", "0- -1"},
		{2, "1000", "1110", "-0"},
		{2, "1110", "1110", "0- -0"},
		{3, "01111110", "01111110", "0-1 1-0 -01 -10"},
		{3, "10000001", "10000001", "000 111"},
		{3, "01101001", "01101001", "001 010 100 111"},
		{3, "01010111", "01010111", "1-- -11"},
		{3, "00011011", "00011011", "0-1 11-"},
		{3, "10110011", "10110011", "0-0 -1-"},
		{3, "11100111", "11100111", "0-0 1-1 -00 -11"},
		{3, "00000001", "00010111", "-11"},
		{3, "11111110", "11111110", "0-- -0- --0"},
	} {
		said := strings.Fields(c.want)
		x := call{digits(c.n, c.on), digits(c.n, c.may), c.n}
		x.hasCubes(t, said, said)
	}
}

// TestEdges is about P12.1 and P12.2, for each number of inputs: on without points, whatever may has; may with all points; and equal sets of one point, and of all but one.
func TestEdges(t *testing.T) {
	for n := range 9 {
		free := []string{strings.Repeat("-", n)}
		for _, may := range mixed(n, random(uint32(n))) {
			call{none(n), may, n}.hasCubes(t, nil, nil)
			if slices.Contains(may, true) {
				call{may, every(n), n}.hasCubes(t, free, free)
			}
		}
		for one := range 1 << n {
			point := pick(n, func(p int) bool { return p == one })
			rest := but(every(n), point)
			corner, away := "", []string{}
			for i := range n {
				corner += []string{"0", "1"}[one>>i%2]
				away = append(away, strings.Repeat("-", i)+[]string{"1", "0"}[one>>i%2]+strings.Repeat("-", n-i-1))
			}
			call{point, point, n}.hasCubes(t, []string{corner}, []string{corner})
			call{point, every(n), n}.hasCubes(t, free, free)
			call{rest, rest, n}.hasCubes(t, away, away)
		}
	}
}

// TestRefusedInputs is about P12.1 and P12.2: numbers that are no numbers of inputs, -1 and 9 among them, with sets of all kinds.
func TestRefusedInputs(t *testing.T) {
	l := []api.Set{{}, {1}, {2}, {3}, {14}, {0, 1}, {0, 0, 0, 1 << 63}, every(8).set()}
	for _, n := range odd {
		for _, on := range l {
			for _, may := range l {
				refused(t, on, may, n)
			}
		}
	}
}

// TestRefusedPoints is about P12.1 and P12.2: each point that is not one of n inputs, in may alone and in both sets, beside none, some and all of theirs.
func TestRefusedPoints(t *testing.T) {
	for n := range 8 {
		some := pick(n, func(p int) bool { return p%2 == 0 })
		for _, on := range []list{none(n), some, every(n)} {
			for other := 1 << n; other < 256; other++ {
				with := func(x list) api.Set {
					return pick(8, func(p int) bool { return p == other || p < len(x) && x[p] }).set()
				}
				refused(t, on.set(), with(on), n)
				refused(t, with(on), with(on), n)
				refused(t, with(none(n)), with(every(n)), n)
				refused(t, with(on), on.set(), n)
				refused(t, with(none(n)), every(n).set(), n)
			}
		}
		refused(t, api.Set{}, every(n+1).set(), n)
		refused(t, every(8).set(), every(8).set(), n)
	}
}

// TestRefusedPairs is about P12.1 and P12.2: all pairs of sets of up to two inputs of which on is not within may, and each single point that mixed sets of more do not have.
func TestRefusedPairs(t *testing.T) {
	for n := range 3 {
		for k := range 1 << (2 << n) {
			on := pick(n, func(p int) bool { return k>>(2*p)%2 == 1 })
			may := pick(n, func(p int) bool { return k>>(2*p)%4 > 1 })
			if !on.within(may) {
				refused(t, on.set(), may.set(), n)
			}
		}
	}
	for n := range 9 {
		for _, may := range mixed(n, random(uint32(n))) {
			for one, in := range may {
				if in {
					continue
				}
				refused(t, pick(n, func(p int) bool { return p == one }).set(), may.set(), n)
				refused(t, pick(n, func(p int) bool { return p == one || may[p] }).set(), may.set(), n)
			}
		}
	}
}

// TestPoints is about P12.3 and P12.5: the points of the cubes contain on, are within may, and are those of both if these are equal.
func TestPoints(t *testing.T) {
	calls(func(c call) {
		for _, l := range [][]string{c.covers(t), c.grows(t)} {
			has := points(c.n, l)
			if !c.on.within(has) || !has.within(c.may) {
				t.Fatalf("%v, %v, %d: %q have other points", c.on.set(), c.may.set(), c.n, l)
			}
			if slices.Equal(c.on, c.may) && !slices.Equal(has, c.on) {
				t.Fatalf("%v, %d: %q have other points", c.on.set(), c.n, l)
			}
		}
	})
}

// TestNeeded is about P12.4: each cube has a point of on that no other one has.
func TestNeeded(t *testing.T) {
	calls(func(c call) {
		l := c.covers(t)
		alone := map[int]int{} // how many points of on a cube has alone
		for p, in := range c.on {
			var has []int
			for k, text := range l {
				if in && contains(text, p) {
					has = append(has, k)
				}
			}
			if len(has) == 1 {
				alone[has[0]]++
			}
		}
		if len(alone) != len(l) {
			t.Fatalf("Cover(%v, %v, %d) = %q: %d of them are needed", c.on.set(), c.may.set(), c.n, l, len(alone))
		}
	})
}

// TestGrownPrimes is about P12.2: what Grown returns is prime within may, and each cube occurs once.
func TestGrownPrimes(t *testing.T) {
	calls(func(c call) {
		l, e := isop.Grown(c.on.set(), c.may.set(), c.n)
		seen := map[api.Cube]int{}
		for _, g := range l {
			seen[g]++
			if !prime.Prime(g, c.may.set(), c.n) {
				t.Fatalf("Grown(%v, %v, %d) has %v", c.on.set(), c.may.set(), c.n, g)
			}
		}
		if e != api.OK || len(seen) != len(l) {
			t.Fatalf("Grown(%v, %v, %d) = %v, %d", c.on.set(), c.may.set(), c.n, l, e)
		}
	})
}

// TestExample is the chapter's.
func TestExample(t *testing.T) {
	s, want := api.Set{0b1110}, []api.Cube{{Mask: 1, Val: 1}, {Mask: 2, Val: 2}}
	if l, e := isop.Cover(s, s, 2); e != api.OK || !slices.Equal(l, want) {
		t.Errorf("Cover = %v, %d", l, e)
	}
	if l, e := isop.Grown(s, s, 2); e != api.OK || !slices.Equal(l, want) {
		t.Errorf("Grown = %v, %d", l, e)
	}
}

// TestMemory is about P0 (R3): what a call returned is nobody else's, spare capacity included.
func TestMemory(t *testing.T) {
	s := pick(6, func(p int) bool { return ones(p) > 1 && ones(p) < 5 }).set()
	for _, ask := range []func(on, may api.Set, n int) ([]api.Cube, api.Errno){isop.Cover, isop.Grown} {
		first, _ := ask(s, s, 6)
		second, _ := ask(s, s, 6)
		want := slices.Clone(second)
		first = first[:cap(first)]
		for k := range first {
			first[k] = api.Cube{Mask: 85, Val: 85}
		}
		if third, e := ask(s, s, 6); e != api.OK || !slices.Equal(second, want) || !slices.Equal(third, want) {
			t.Errorf("memory is shared: %v, %v, not %v", second, third, want)
		}
	}
}

// TestSame is about P0 (R1, R4): any arguments, always with the same results.
func TestSame(t *testing.T) {
	next := random(129)
	for round := range 300 {
		may := pick(8, func(int) bool { return next(16) < round%17 }).set()
		on := pick(8, func(int) bool { return next(64) < round%65 }).set()
		for _, n := range append([]int{0, 1, 3, 6, 7, 8}, odd...) {
			for _, part := range []api.Set{on, may, {on[0] & may[0], on[1] & may[1], on[2] & may[2], on[3] & may[3]}} {
				for _, ask := range []func(on, may api.Set, n int) ([]api.Cube, api.Errno){isop.Cover, isop.Grown} {
					first, e := ask(part, may, n)
					second, f := ask(part, may, n)
					if e != f || !slices.Equal(first, second) || e != api.OK && (e != api.ErrArg || len(first) != 0) {
						t.Fatalf("%v, %v, %d: %v, %d, then %v, %d", part, may, n, first, e, second, f)
					}
				}
			}
			if isop.Side(on, n, true) != isop.Side(on, n, true) || isop.Side(may, n, false) != isop.Side(may, n, false) {
				t.Fatalf("Side(%v or %v, %d) varies", on, may, n)
			}
		}
	}
}
