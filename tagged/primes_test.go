package tagged_test

import (
	"slices"
	"testing"

	"drawknife/api"
	"drawknife/multi"
	"drawknife/prime"
	"drawknife/spec"
	"drawknife/tagged"
	"drawknife/zdd"
)

// TestPrimes is about P11.2 and P11.4: all sets of up to three inputs, and each thirteenth of four.
func TestPrimes(t *testing.T) {
	for _, w := range worlds(t, 4) {
		step := []int{1, 1, 1, 1, 13}[w.n]
		for all := 0; all < 1<<(1<<w.n); all += step {
			w.ask(1, func(p int) int { return all >> p % 2 }).asPrimes(0).alone(t)
		}
	}
}

// TestMixedPrimes is about P11.2 and P11.4: sets of up to eight inputs.
func TestMixedPrimes(t *testing.T) {
	for _, w := range worlds(t, 8) {
		for _, a := range w.mixed(4) {
			for o := range a.m {
				a.asPrimes(o).alone(t)
			}
		}
	}
}

// TestSinglePoints is about P11.2: each point alone has one prime, with all its literals, and all points but this one have as many as there are inputs.
func TestSinglePoints(t *testing.T) {
	for n := range 9 {
		for p := range 1 << n {
			var alone, rest []int
			corner := 0
			for i := range n {
				bit := p >> i % 2
				corner += (1 + bit) << (2 * i)
				rest = append(rest, (2-bit)<<(2*i))
			}
			alone = append(alone, corner)
			slices.Sort(rest)
			var s, other api.Set
			s[p/64] = 1 << (p % 64)
			for q := range 1 << n {
				if q != p {
					other[q/64] |= 1 << (q % 64)
				}
			}
			call{func(z *zdd.Zdd) (int, api.Errno) { return tagged.Primes(z, s, n) }, alone, n <= setIn}.alone(t)
			call{func(z *zdd.Zdd) (int, api.Errno) { return tagged.Primes(z, other, n) }, rest, n <= setIn}.alone(t)
		}
	}
}

// TestEnds is about P11.2: no points have no primes, and all points have the cube without literals, which is the empty member.
func TestEnds(t *testing.T) {
	for _, w := range worlds(t, 8) {
		for m := 1; m <= 4; m++ {
			full := 1<<m - 1
			nowhere, everywhere := w.ask(m, func(int) int { return 0 }), w.ask(m, func(int) int { return full })
			for _, c := range []struct {
				c    call
				want []int
			}{
				{nowhere.asPrimes(m - 1), nil}, {nowhere.asRows(), nil}, {everywhere.asPrimes(m - 1), []int{0}}, {everywhere.asRows(), []int{full << 16}},
			} {
				if !slices.Equal(c.c.want, c.want) {
					t.Fatalf("the model has %v, not %v", c.c.want, c.want)
				}
				c.c.alone(t)
			}
		}
	}
}

// TestAll is about P11.2 and P11.4: all small specs.
func TestAll(t *testing.T) {
	for _, a := range small(worlds(t, 3)) {
		a.asRows().alone(t)
	}
}

// TestMixedAll is about P11.2 and P11.4: specs of up to eight inputs and four outputs.
func TestMixedAll(t *testing.T) {
	for _, w := range worlds(t, 8) {
		for m := 1; m <= 4; m++ {
			for _, a := range w.mixed(m) {
				a.asRows().alone(t)
			}
		}
	}
}

// TestBands is about P11.4: 3710 prime rows, and 3108.
func TestBands(t *testing.T) {
	w := worldOf(t, 8)
	for _, c := range []struct {
		least, most []int
		want        int
	}{
		{[]int{2}, []int{5}, 560}, {[]int{0, 1, 2, 3}, []int{3, 4, 5, 6}, 3108}, {[]int{1, 2, 3, 4}, []int{4, 5, 6, 7}, 3710},
	} {
		rows := w.ask(len(c.least), func(p int) int { return band(c.least, c.most, p) }).asRows()
		if len(rows.want) != c.want {
			t.Fatalf("the model has %d rows, not %d", len(rows.want), c.want)
		}
		rows.alone(t)
	}
}

// TestSameAsLists is about P11.2 and P11.4: the members are those of the primes that prime.All and multi.All return.
func TestSameAsLists(t *testing.T) {
	for _, w := range worlds(t, 6) {
		for _, a := range w.mixed(3) {
			s := a.spec()
			cubes, e := prime.All(s.May[1], s.In)
			rows, f := multi.All(s)
			if e != api.OK || f != api.OK {
				t.Fatalf("All(%v): %d, %d", s, e, f)
			}
			var ofCubes, ofRows []int
			for _, c := range cubes {
				ofCubes = append(ofCubes, tagged.Member(api.Row{Cube: c}))
			}
			for _, x := range rows {
				ofRows = append(ofRows, tagged.Member(x))
			}
			slices.Sort(ofCubes)
			slices.Sort(ofRows)
			call{func(z *zdd.Zdd) (int, api.Errno) { return tagged.Primes(z, s.May[1], s.In) }, ofCubes, w.n <= setIn}.alone(t)
			call{func(z *zdd.Zdd) (int, api.Errno) { return tagged.All(z, s) }, ofRows, w.n <= specIn}.alone(t)
		}
	}
}

// TestMustBeOn is about P11.2: which points must be on is of no account.
func TestMustBeOn(t *testing.T) {
	next := random(112)
	for _, w := range worlds(t, 4) {
		for m := 1; m <= 4; m++ {
			for _, a := range w.mixed(m) {
				most, some := a.spec(), a.spec()
				most.On = slices.Clone(most.May)
				for o := range some.On {
					some.On[o][0] = some.May[o][0] & uint64(next(1<<31))
				}
				for _, s := range []api.Spec{most, some} {
					call{func(z *zdd.Zdd) (int, api.Errno) { return tagged.All(z, s) }, a.rows(), true}.alone(t)
				}
			}
		}
	}
}

// TestRowsAgain is about P11.2 and P11.3: each member of a family is that of a prime row.
func TestRowsAgain(t *testing.T) {
	for _, w := range worlds(t, 4) {
		for m := 1; m <= 4; m++ {
			for _, a := range w.mixed(m) {
				z, s := diagram(t, many), a.spec()
				f, e := tagged.All(z, s)
				l, _ := z.List(f)
				if all, _ := multi.All(s); e != api.OK || len(l) != len(all) {
					t.Fatalf("All(%v): %d members, %d, of %d rows", s, len(l), e, len(all))
				}
				for _, m := range l {
					if x, e := tagged.Row(m); e != api.OK || !multi.Prime(s, x) {
						t.Fatalf("Row(%d) = %v, %d, not a prime row of %v", m, x, e, s)
					}
				}
			}
		}
	}
}

// TestExample is about P11.1 and P11.2: the example of the chapter, and one of several outputs.
func TestExample(t *testing.T) {
	call{func(z *zdd.Zdd) (int, api.Errno) { return tagged.Primes(z, api.Set{14}, 2) }, []int{2, 8}, true}.alone(t)
	s := api.Spec{In: 1, On: make([]api.Set, 2), May: []api.Set{{2}, {3}}}
	call{func(z *zdd.Zdd) (int, api.Errno) { return tagged.All(z, s) }, []int{2 << 16, 3<<16 + 2}, true}.alone(t)
}

// TestMemory is about P0 (R3): All neither changes nor keeps the spec.
func TestMemory(t *testing.T) {
	for _, a := range worldOf(t, 4).mixed(4) {
		z, s := diagram(t, many), a.spec()
		f, e := tagged.All(z, s)
		if e != api.OK || !spec.Same(s, a.spec()) {
			t.Fatalf("All: %d; the spec has become %v", e, s)
		}
		clear(s.May)
		clear(s.On)
		if l, e := z.List(f); e != api.OK || !slices.Equal(l, a.rows()) {
			t.Fatalf("the family has become %v, %d", l, e)
		}
	}
}
