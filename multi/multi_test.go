package multi_test

import (
	"slices"
	"testing"

	"drawknife/api"
	"drawknife/cube"
	"drawknife/multi"
	"drawknife/prime"
	"drawknife/spec"
)

// TestHolds is about P10.1: all pairs of cubes of three inputs, also with bits of Val that Mask does not have, and Outs of all kinds.
func TestHolds(t *testing.T) {
	w := worldOf(t, 3)
	outs := []uint8{0, 1, 2, 3, 5, 8, 10, 15, 16, 128, 129, 240, 255}
	for _, a := range w.cubes {
		for _, b := range w.cubes {
			for _, more := range outs {
				for _, less := range outs {
					x, y := api.Row{Cube: a.cube, Outs: more}, api.Row{Cube: b.cube, Outs: less}
					want := holds(a.text, b.text) && less&^more == 0
					if multi.Holds(x, y) != want {
						t.Fatalf("Holds(%v, %v) = %v", x, y, !want)
					}
					x.Cube.Val |= 0xb5 &^ x.Cube.Mask
					y.Cube.Val |= 0x9a &^ y.Cube.Mask
					if multi.Holds(x, y) != want {
						t.Fatalf("Holds(%v, %v) = %v", x, y, !want)
					}
				}
			}
		}
	}
}

// TestHoldsOuts is about P10.1: all Outs there are, and cubes of eight inputs.
func TestHoldsOuts(t *testing.T) {
	wide, narrow, other := of(t, "1---0---"), of(t, "1-1-0--0"), of(t, "1-1-1--0")
	for a := range 256 {
		for b := range 256 {
			for _, c := range []struct {
				x, y api.Cube
				want bool
			}{{wide, wide, true}, {wide, narrow, true}, {narrow, wide, false}, {wide, other, false}, {api.Cube{}, other, true}} {
				x, y := api.Row{Cube: c.x, Outs: uint8(a)}, api.Row{Cube: c.y, Outs: uint8(b)}
				if got := multi.Holds(x, y); got != (c.want && a|b == a) {
					t.Fatalf("Holds(%v, %v) = %v", x, y, got)
				}
			}
		}
	}
}

// TestWithinAndPrime is about P10.1: all rows, also with Outs that are none or not there, of all small specs, and some of mixed ones.
func TestWithinAndPrime(t *testing.T) {
	specs(t, func(a asked) {
		s := a.spec()
		a.each(func(k int, outs uint8) {
			x := api.Row{Cube: a.w.cubes[k].cube, Outs: outs}
			if in := a.within(k, outs); multi.Within(s, x) != in {
				t.Fatalf("Within(%v, %v) = %v", s, x, !in)
			}
			if is := a.prime(k, outs); multi.Prime(s, x) != is {
				t.Fatalf("Prime(%v, %v) = %v", s, x, !is)
			}
		})
	})
}

// TestNoOtherRow is about P10.1: a row within is prime if no other one that is within contains it, by a look at all rows.
func TestNoOtherRow(t *testing.T) {
	l := worlds(t, 3)
	all := small(l[:2])
	for m := 1; m <= 4; m++ {
		all = append(all, slices.Concat(l[2].mixed(m), l[3].mixed(m))...)
	}
	for _, a := range all {
		s := a.spec()
		a.each(func(k int, outs uint8) {
			if x := (api.Row{Cube: a.w.cubes[k].cube, Outs: outs}); multi.Prime(s, x) != a.single(k, outs) {
				t.Fatalf("Prime(%v, %v) = %v", s, x, !a.single(k, outs))
			}
		})
	}
}

// TestAll is about P10.1: all small specs, and mixed ones.
func TestAll(t *testing.T) {
	specs(t, func(a asked) { hasRows(t, a.spec(), a.rows()) })
}

// TestLists is about P10.1: prime rows that are told by their texts, in increasing order: by Outs, then by Mask, then by Val.
func TestLists(t *testing.T) {
	for _, c := range []struct {
		n    int
		may  []api.Set
		want []string
	}{
		{0, []api.Set{{0}}, nil},
		{0, []api.Set{{1}}, []string{" 1"}},
		{0, []api.Set{{1}, {0}, {1}, {0}}, []string{" 1010"}},
		{0, []api.Set{{1}, {1}, {1}, {1}}, []string{" 1111"}},
		{1, []api.Set{{1}, {2}}, []string{"0 10", "1 01"}},
		{1, []api.Set{{3}, {2}}, []string{"- 10", "1 11"}},
		{1, []api.Set{{3}, {3}, {1}}, []string{"- 110", "0 111"}},
		{1, []api.Set{{1}, {0}, {2}, {3}}, []string{"- 0001", "0 1001", "1 0011"}},
		{2, []api.Set{{0b1110}}, []string{"1- 1", "-1 1"}},
		{2, []api.Set{{0b1010}, {0b1100}}, []string{"1- 10", "-1 01", "11 11"}},
		{2, []api.Set{{0b1110}, {0b0111}}, []string{"1- 10", "-1 10", "0- 01", "-0 01", "10 11", "01 11"}},
		{2, []api.Set{{0b1111}, {0b0110}}, []string{"-- 10", "10 11", "01 11"}},
		{2, []api.Set{{0b1001}, {0b1001}, {0b1000}}, []string{"00 110", "11 111"}},
		{2, []api.Set{{0b1110}, {0b1110}, {0b1110}, {0b1110}}, []string{"1- 1111", "-1 1111"}},
		{2, []api.Set{{0b0111}, {0b1011}, {0b1101}, {0b1110}}, []string{"-0 1100", "0- 1010", "00 1110", "1- 0101", "10 1101", "-1 0011", "01 1011", "11 0111"}},
		{3, []api.Set{{0b10000001}, {0b01111110}}, []string{"000 10", "111 10", "10- 01", "01- 01", "1-0 01", "0-1 01", "-10 01", "-01 01"}},
		{3, []api.Set{{0xff}, {0b10101010}, {0b11001100}}, []string{"--- 100", "1-- 110", "-1- 101", "11- 111"}},
	} {
		hasRows(t, api.Spec{In: c.n, On: make([]api.Set, len(c.may)), May: c.may}, rowsOf(t, c.want))
	}
}

// TestEdges is about P10.1 and P10.2: for each number of inputs and outputs those that may be on nowhere, everywhere, and at one point.
func TestEdges(t *testing.T) {
	for n := range 9 {
		w := world{n: n}
		for m := 1; m <= 4; m++ {
			full := 1<<m - 1
			all := api.Row{Outs: uint8(full)}
			nowhere := w.ask(m, func(int) int { return 0 }).spec()
			everywhere := w.ask(m, func(int) int { return full }).spec()
			hasRows(t, nowhere, nil)
			hasRows(t, everywhere, []api.Row{all})
			for p := range 1 << n {
				one := api.Row{Cube: api.Cube{Mask: uint8(1<<n - 1), Val: uint8(p)}, Outs: 1 << (p % m)}
				outside(t, nowhere, one)
				becomes(t, everywhere, one, all)
				there := w.ask(m, func(q int) int { return full * (1 - min(p^q, 1)) }).spec()
				corner := api.Row{Cube: one.Cube, Outs: uint8(full)}
				hasRows(t, there, []api.Row{corner})
				becomes(t, there, one, corner)
			}
			for o := range m {
				alone := api.Row{Outs: 1 << o}
				hasRows(t, w.ask(m, func(int) int { return 1 << o }).spec(), []api.Row{alone})
				becomes(t, everywhere, alone, all)
				outside(t, nowhere, alone)
			}
		}
	}
}

// becomes checks that x, which is within, grows to want, and that only want is prime.
func becomes(t *testing.T, s api.Spec, x, want api.Row) {
	t.Helper()
	if !multi.Within(s, x) || multi.Prime(s, x) != (x == want) || !multi.Prime(s, want) {
		t.Fatalf("Within(%v, %v) = %v, Prime = %v", s, x, multi.Within(s, x), multi.Prime(s, x))
	}
	if got, e := multi.Grow(s, x); e != api.OK || got != want {
		t.Fatalf("Grow(%v, %v) = %v, %d, not %v", s, x, got, e, want)
	}
}

// TestMany is about P10.1: outputs that may be on for so many ones. A prime cube has so many literals 1 as there must be ones, so many literals 0 as there must be zeros, and no others, so that different numbers of ones have different prime cubes.
func TestMany(t *testing.T) {
	factorial := []int{1, 1, 2, 6, 24, 120, 720, 5040, 40320}
	w := world{n: 8}
	for _, c := range []struct {
		least, most []int
		want        int
	}{
		{[]int{2}, []int{5}, 560},
		{[]int{2, 3}, []int{5, 6}, 1680},
		{[]int{0, 1, 2, 3}, []int{3, 4, 5, 6}, 3108},
		{[]int{1, 2, 3, 4}, []int{4, 5, 6, 7}, 3710},
		{[]int{0, 0, 0, 0}, []int{8, 8, 8, 8}, 1},
	} {
		s := w.ask(len(c.least), func(p int) int { return bandOuts(c.least, c.most, p) }).spec()
		l, e := multi.All(s)
		bands := map[[2]int]int{}
		for outs := 1; outs < 1<<len(c.least); outs++ {
			least, most := 0, 8
			for o := range c.least {
				if outs>>o%2 == 1 {
					least, most = max(least, c.least[o]), min(most, c.most[o])
				}
			}
			if least <= most {
				bands[[2]int{least, most}] = factorial[8] / (factorial[least] * factorial[8-most] * factorial[most-least])
			}
		}
		sum := 0
		for _, many := range bands {
			sum += many
		}
		if e != api.OK || len(l) != c.want || sum != c.want {
			t.Errorf("%v to %v ones: %d prime rows, %d, not %d", c.least, c.most, len(l), e, sum)
		}
	}
}

// TestGrow is about P10.2: the rows and specs of TestWithinAndPrime.
func TestGrow(t *testing.T) {
	specs(t, func(a asked) {
		s := a.spec()
		a.each(func(k int, outs uint8) {
			x := api.Row{Cube: a.w.cubes[k].cube, Outs: outs}
			if !a.within(k, outs) {
				outside(t, s, x)
				return
			}
			want := a.grown(k, outs)
			if got, e := multi.Grow(s, x); e != api.OK || got != want {
				t.Fatalf("Grow(%v, %v) = %v, %d, not %v", s, x, got, e, want)
			}
		})
	})
}

// TestGrowLists is about P10.2: rows that are told by their texts: lower inputs go first, and outputs come only when no more literals can go.
func TestGrowLists(t *testing.T) {
	for _, c := range []struct {
		n          int
		may        []api.Set
		text, want string
	}{
		{0, []api.Set{{1}}, " 1", " 1"},
		{0, []api.Set{{1}, {0}, {1}, {1}}, " 0010", " 1011"},
		{1, []api.Set{{2}, {3}}, "1 10", "1 11"},
		{1, []api.Set{{2}, {3}}, "1 01", "- 01"},
		{1, []api.Set{{2}, {3}}, "1 11", "1 11"},
		{2, []api.Set{{0b1110}}, "11 1", "-1 1"},
		{2, []api.Set{{0b1110}}, "10 1", "1- 1"},
		{2, []api.Set{{0b1110}, {0b1000}}, "11 10", "-1 10"},
		{2, []api.Set{{0b1110}, {0b1000}}, "11 01", "11 11"},
		{2, []api.Set{{0b1110}, {0b1100}, {0b1010}}, "11 100", "-1 110"},
		{2, []api.Set{{0b1110}, {0b1100}, {0b1010}}, "11 101", "1- 101"},
		{2, []api.Set{{0b1110}, {0b1100}, {0b1010}}, "11 011", "11 111"},
		{2, []api.Set{{0b1110}, {0b1100}, {0b1010}}, "1- 100", "1- 101"},
		{3, []api.Set{{0b01111110}, {0b11111110}}, "100 10", "1-0 11"},
		{3, []api.Set{{0b01111110}, {0b11111110}}, "100 01", "1-- 01"},
		{3, []api.Set{{0b01111110}, {0b11111110}}, "110 01", "-1- 01"},
	} {
		s := api.Spec{In: c.n, On: make([]api.Set, len(c.may)), May: c.may}
		if got, e := multi.Grow(s, row(t, c.text)); e != api.OK || got != row(t, c.want) {
			t.Errorf("Grow(%v, %q) = %v, %d, not %q", s, c.text, got, e, c.want)
		}
	}
}

// TestContained is about P10.3: a prime row contains each row within, and together they cover the spec, also if all must be on that may be.
func TestContained(t *testing.T) {
	specs(t, func(a asked) {
		s := a.spec()
		for range 2 {
			l, e := multi.All(s)
			if e != api.OK || !spec.Covers(s, l) {
				t.Fatalf("All(%v) = %v, %d, which do not cover it", s, l, e)
			}
			s.On = s.May
		}
		if a.w.n > 5 {
			return
		}
		l, _ := multi.All(s)
		a.each(func(k int, outs uint8) {
			x := api.Row{Cube: a.w.cubes[k].cube, Outs: outs}
			in := slices.ContainsFunc(l, func(wide api.Row) bool { return multi.Holds(wide, x) })
			if multi.Within(s, x) != (in && outs > 0) {
				t.Fatalf("%v, %v: a prime row contains it: %v", s, x, in)
			}
		})
	})
}

// TestGrown is about P10.4: what Grow returns is prime, is one of all, and contains what it was made of.
func TestGrown(t *testing.T) {
	specs(t, func(a asked) {
		s := a.spec()
		all, _ := multi.All(s)
		a.each(func(k int, outs uint8) {
			x := api.Row{Cube: a.w.cubes[k].cube, Outs: outs}
			got, e := multi.Grow(s, x)
			if (e == api.OK) != multi.Within(s, x) {
				t.Fatalf("Grow(%v, %v): %d", s, x, e)
			}
			if e == api.OK && (!multi.Holds(got, x) || !multi.Prime(s, got) || !slices.Contains(all, got)) {
				t.Fatalf("Grow(%v, %v) = %v", s, x, got)
			}
		})
	})
}

// TestOneOutput is about P10.5.
func TestOneOutput(t *testing.T) {
	specs(t, func(a asked) {
		if a.m > 1 {
			return
		}
		s := a.spec()
		cubes, e := prime.All(s.May[0], s.In)
		if e != api.OK {
			t.Fatalf("All(%v, %d): %d", s.May[0], s.In, e)
		}
		var want []api.Row
		for _, c := range cubes {
			want = append(want, api.Row{Cube: c, Outs: 1})
		}
		hasRows(t, s, want)
	})
}

// TestMustBeOn is about P10.1 and P10.2: which points must be on is of no account.
func TestMustBeOn(t *testing.T) {
	next := random(10)
	for _, w := range worlds(t, 5) {
		for _, a := range w.mixed(3) {
			s, most, some := a.spec(), a.spec(), a.spec()
			most.On = most.May
			for o := range some.On {
				for k, word := range some.May[o] {
					some.On[o][k] = word & (uint64(next(1<<31)) * 0x100000001)
				}
			}
			all, _ := multi.All(s)
			for _, other := range []api.Spec{most, some} {
				hasRows(t, other, all)
				a.each(func(k int, outs uint8) {
					x := api.Row{Cube: w.cubes[k].cube, Outs: outs}
					got, e := multi.Grow(other, x)
					want, f := multi.Grow(s, x)
					if got != want || e != f || multi.Within(other, x) != multi.Within(s, x) || multi.Prime(other, x) != multi.Prime(s, x) {
						t.Fatalf("%v, %v: %v, %d, not %v, %d", other, x, got, e, want, f)
					}
				})
			}
		}
	}
}

// wrong are specs each of which is not valid in one way.
func wrong() []api.Spec {
	none := make([]api.Set, 5)
	l := []api.Spec{
		{}, {In: 2}, {In: 8}, {In: 1, On: []api.Set{}, May: []api.Set{}},
		{In: 2, On: none, May: none}, {In: 1, May: none[:1]}, {In: 1, On: none[:1]},
		{In: 2, On: none[:1], May: none[:2]}, {In: 2, On: none[:2], May: none[:1]}, {In: 2, On: none[:3], May: none[:4]},
		{In: 2, On: none[:4], May: none}, {In: 2, On: none, May: none[:4]},
		{In: 2, On: make([]api.Set, 300), May: make([]api.Set, 300)},
		{In: 0, On: none[:1], May: []api.Set{{3}}}, {In: 1, On: none[:2], May: []api.Set{{3}, {7}}},
		{In: 1, On: none[:2], May: []api.Set{{3}, {3, 0, 0, 1 << 63}}}, {In: 6, On: none[:1], May: []api.Set{{1, 1}}},
		{In: 2, On: []api.Set{{4}, {}}, May: []api.Set{{3}, {15}}}, {In: 2, On: []api.Set{{}, {1}}, May: []api.Set{{15}, {14}}},
		{In: 8, On: []api.Set{{0, 0, 0, 1}, {}}, May: []api.Set{{15}, {15}}},
	}
	for _, n := range odd {
		l = append(l, api.Spec{In: n, On: none[:2], May: []api.Set{{3}, {3}}}, api.Spec{In: n, On: none[:1], May: none[:1]})
	}
	return l
}

// TestWrongSpecs is about P10.1 and P10.2: in a spec that is not valid nothing is within.
func TestWrongSpecs(t *testing.T) {
	for _, s := range wrong() {
		if l, e := multi.All(s); e != api.ErrArg || len(l) != 0 {
			t.Errorf("All(%v) = %v, %d", s, l, e)
		}
		for _, text := range []string{" 0", " 1", " 01", " 11", "1 1", "0 1", "10 1", "11 11", "---- 1111", "00000000 1"} {
			outside(t, s, row(t, text))
		}
		outside(t, s, api.Row{Cube: api.Cube{Mask: 1, Val: 2}, Outs: 1})
		outside(t, s, api.Row{Cube: api.Cube{Mask: 255, Val: 255}, Outs: 255})
	}
}

// TestWrongOuts is about P10.1 and P10.2: all Outs that there are, where all may be on.
func TestWrongOuts(t *testing.T) {
	for n := range 9 {
		for m := 1; m <= 4; m++ {
			s := world{n: n}.ask(m, func(int) int { return 1<<m - 1 }).spec()
			for outs := range 256 {
				for _, c := range []api.Cube{{}, {Mask: uint8(1<<n - 1)}, {Mask: uint8(1<<n - 1), Val: uint8(1<<n - 1)}} {
					x := api.Row{Cube: c, Outs: uint8(outs)}
					if outs == 0 || outs >= 1<<m {
						outside(t, s, x)
					} else {
						becomes(t, s, x, api.Row{Outs: uint8(1<<m - 1)})
					}
				}
			}
		}
	}
}

// TestWrongCubes is about P10.1 and P10.2: all cubes that are not valid, where all may be on.
func TestWrongCubes(t *testing.T) {
	for n := range 9 {
		s := world{n: n}.ask(2, func(int) int { return 3 }).spec()
		for mask := range 256 {
			for val := range 256 {
				c := api.Cube{Mask: uint8(mask), Val: uint8(val)}
				if !cube.Right(c, n) {
					outside(t, s, api.Row{Cube: c, Outs: uint8(1 + val%3)})
				}
			}
		}
	}
}

// TestNotWithin is about P10.1 and P10.2: a row of several outputs, one of which may not be on at one of its points.
func TestNotWithin(t *testing.T) {
	for n := range 9 {
		w := worldOf(t, n)
		for p := range 1 << n {
			o := p % 4
			a := w.ask(4, func(q int) int { return 15 - (1-min(p^q, 1))<<o })
			s := a.spec()
			for _, k := range []int{0, len(w.cubes) / 2, len(w.cubes) - 1} {
				if !contains(w.cubes[k].text, p) {
					continue
				}
				outside(t, s, api.Row{Cube: w.cubes[k].cube, Outs: 15})
				outside(t, s, api.Row{Cube: w.cubes[k].cube, Outs: 1 << o})
				becomes(t, s, api.Row{Cube: w.cubes[k].cube, Outs: 15 &^ (1 << o)}, api.Row{Outs: 15 &^ (1 << o)})
			}
		}
	}
}

// TestExample is the chapter's.
func TestExample(t *testing.T) {
	s := api.Spec{In: 1, On: []api.Set{{}, {}}, May: []api.Set{{2}, {3}}}
	hasRows(t, s, []api.Row{{Outs: 2}, {Cube: api.Cube{Mask: 1, Val: 1}, Outs: 3}})
}

// TestMemory is about P0 (R3): arguments stay as they are, and what a call returned is nobody else's, spare capacity included.
func TestMemory(t *testing.T) {
	a := worldOf(t, 4).mixed(3)[10]
	s, same := a.spec(), a.spec()
	first, _ := multi.All(s)
	second, _ := multi.All(s)
	want := slices.Clone(second)
	first = first[:cap(first)]
	for k := range first {
		first[k] = api.Row{Outs: 85}
	}
	if third, e := multi.All(s); e != api.OK || len(want) < 3 || !slices.Equal(second, want) || !slices.Equal(third, want) {
		t.Errorf("All shares memory: %v, %v, not %v", second, third, want)
	}
	a.each(func(k int, outs uint8) {
		x := api.Row{Cube: a.w.cubes[k].cube, Outs: outs}
		multi.Within(s, x)
		multi.Prime(s, x)
		multi.Grow(s, x)
	})
	if !spec.Same(s, same) {
		t.Errorf("the argument has become %v, not %v", s, same)
	}
}

// TestSame is about P0 (R1, R4): any arguments, always with the same results.
func TestSame(t *testing.T) {
	type answer struct {
		within, prime, holds bool
		grown                api.Row
		e                    api.Errno
	}
	ask := func(s api.Spec, x api.Row) answer {
		var a answer
		a.within, a.prime, a.holds = multi.Within(s, x), multi.Prime(s, x), multi.Holds(x, api.Row{Cube: x.Cube, Outs: 1})
		a.grown, a.e = multi.Grow(s, x)
		return a
	}
	next := random(11)
	all := wrong()
	for _, w := range worlds(t, 8) {
		for _, a := range w.mixed(4) {
			all = append(all, a.spec())
		}
	}
	for _, s := range all {
		for range 40 {
			x := api.Row{Cube: api.Cube{Mask: uint8(next(256)), Val: uint8(next(256))}, Outs: uint8(next(256))}
			if first, second := ask(s, x), ask(s, x); first != second {
				t.Fatalf("%v, %v: %v, then %v", s, x, first, second)
			}
		}
		first, e := multi.All(s)
		for range 2 {
			if again, f := multi.All(s); e != f || !slices.Equal(first, again) {
				t.Fatalf("All(%v) = %v, then %v", s, first, again)
			}
		}
	}
}
