package prime_test

import (
	"slices"
	"testing"

	"drawknife/api"
	"drawknife/cube"
	"drawknife/prime"
	"drawknife/set"
)

// TestWithin is about P9.1: all cubes, in all sets of up to three inputs and some of more.
func TestWithin(t *testing.T) {
	sets(func(w world, x points) {
		s := x.set()
		for k, in := range w.within(x) {
			if c := w.cubes[k]; prime.Within(c.cube, s, w.n) != in {
				t.Fatalf("Within(%q, %v, %d) = %v", c.text, s, w.n, !in)
			}
		}
	})
}

// TestPrime is about P9.1: the same cubes and sets.
func TestPrime(t *testing.T) {
	sets(func(w world, x points) {
		s := x.set()
		for k, is := range w.primes(w.within(x)) {
			if c := w.cubes[k]; prime.Prime(c.cube, s, w.n) != is {
				t.Fatalf("Prime(%q, %v, %d) = %v", c.text, s, w.n, !is)
			}
		}
	})
}

// TestAll is about P9.1: the same sets, and all of four inputs.
func TestAll(t *testing.T) {
	sets(func(w world, x points) {
		hasPrimes(t, x, w.n, w.list(w.primes(w.within(x))))
	})
	w := worldOf(4)
	for k := range 1 << 16 {
		x := numbered(4, k)
		hasPrimes(t, x, 4, w.list(w.primes(w.within(x))))
	}
}

// TestLists is about P9.1: primes that are told by their texts, in increasing order.
func TestLists(t *testing.T) {
	for _, c := range []struct {
		n, points int
		want      []string
	}{
		{0, 0, nil},
		{0, 1, []string{""}},
		{1, 0, nil},
		{1, 1, []string{"0"}},
		{1, 2, []string{"1"}},
		{1, 3, []string{"-"}},
		{2, 0b1110, []string{"1-", "-1"}},
		{2, 0b1001, []string{"00", "11"}},
		{2, 0b0110, []string{"10", "01"}},
		{3, 0b01111110, []string{"10-", "01-", "1-0", "0-1", "-10", "-01"}},
		{3, 0b10000001, []string{"000", "111"}},
		{3, 0b01101001, []string{"000", "110", "101", "011"}},
		{3, 0b11101010, []string{"1--", "-11"}},
		{3, 0xff, []string{"---"}},
		{3, 0x7f, []string{"0--", "-0-", "--0"}},
		{4, 0xfffe, []string{"1---", "-1--", "--1-", "---1"}},
	} {
		var want []api.Cube
		for _, text := range c.want {
			want = append(want, of(text))
		}
		hasPrimes(t, numbered(c.n, c.points), c.n, want)
	}
}

// TestEdges is about P9.1 and P9.2: for each number of inputs no points, all of them, all but one, and sets of one point.
func TestEdges(t *testing.T) {
	for n := range 9 {
		hasPrimes(t, points{}, n, nil)
		hasPrimes(t, every(n), n, []api.Cube{{}})
		full, literals := every(n).set(), uint8(1<<n-1)
		for p := range 1 << n {
			one := pick(n, func(q int) bool { return p == q })
			c := api.Cube{Mask: literals, Val: uint8(p)}
			hasPrimes(t, one, n, []api.Cube{c})
			outside(t, c, api.Set{}, n)
			if got, e := prime.Grow(c, one.set(), n); e != api.OK || got != c || !prime.Within(c, one.set(), n) || !prime.Prime(c, one.set(), n) {
				t.Fatalf("Grow(%v, %v, %d) = %v, %d", c, one.set(), n, got, e)
			}
			if got, e := prime.Grow(c, full, n); e != api.OK || got != (api.Cube{}) || !prime.Within(c, full, n) || prime.Prime(c, full, n) != (n == 0) {
				t.Fatalf("Grow(%v, %v, %d) = %v, %d", c, full, n, got, e)
			}
			rest := pick(n, func(q int) bool { return p != q })
			outside(t, api.Cube{}, rest.set(), n)
			outside(t, c, rest.set(), n)
			hasPrimes(t, rest, n, allBut(n, p))
		}
	}
}

// allBut are the primes of all points but p: those with one literal that p does not have.
func allBut(n, p int) []api.Cube {
	var l []api.Cube
	for i := range n {
		bit := uint8(1) << i
		l = append(l, api.Cube{Mask: bit, Val: bit &^ uint8(p)})
	}
	return l
}

// TestMany is about P9.1: of the points with so many ones, a prime cube has so many literals 1 as there must be ones, so many literals 0 as there must be zeros, and no others: up to 560 of eight inputs.
func TestMany(t *testing.T) {
	factorial := []int{1, 1, 2, 6, 24, 120, 720, 5040, 40320}
	most := 0
	for n := range 9 {
		for b := range n + 1 {
			for a := range b + 1 {
				want := factorial[n] / (factorial[a] * factorial[n-b] * factorial[b-a])
				most = max(most, want)
				if l, e := prime.All(band(n, a, b).set(), n); e != api.OK || len(l) != want {
					t.Errorf("%d to %d ones of %d: %d primes, not %d, error %d", a, b, n, len(l), want, e)
				}
			}
		}
	}
	if most != 560 {
		t.Errorf("at most %d primes", most)
	}
	odd := pick(8, func(p int) bool { return ones(8, p)%2 == 1 })
	if l, e := prime.All(odd.set(), 8); e != api.OK || len(l) != 128 {
		t.Errorf("an odd number of ones: %d primes, error %d", len(l), e)
	}
}

// TestAllRefused is about P9.1: each point that is not one of n inputs, alone and beside all of theirs, and numbers that are no numbers of inputs.
func TestAllRefused(t *testing.T) {
	refused := func(s api.Set, n int) {
		t.Helper()
		if l, e := prime.All(s, n); e != api.ErrArg || len(l) != 0 {
			t.Fatalf("All(%v, %d) = %v, %d", s, n, l, e)
		}
	}
	for n := range 9 {
		for p := 1 << n; p < 256; p++ {
			refused(pick(8, func(q int) bool { return p == q }).set(), n)
			refused(pick(8, func(q int) bool { return p == q || q < 1<<n }).set(), n)
		}
		if n < 8 {
			refused(every(n+1).set(), n)
			refused(every(8).set(), n)
		}
	}
	for _, n := range odd {
		for _, s := range []api.Set{{}, {1}, {3}, {0, 1}, {0, 0, 0, 1 << 63}, every(8).set()} {
			refused(s, n)
		}
	}
}

// TestNoCube is about P9.1 and P9.2: all cubes that are not valid, in all points of n inputs; and no cube is valid for numbers that are no numbers of inputs.
func TestNoCube(t *testing.T) {
	each := func(test func(c api.Cube)) {
		for mask := range 256 {
			for val := range 256 {
				test(api.Cube{Mask: uint8(mask), Val: uint8(val)})
			}
		}
	}
	for n := range 9 {
		valid := map[api.Cube]int{}
		for _, text := range texts(n) {
			valid[of(text)] = 1
		}
		full := every(n).set()
		each(func(c api.Cube) {
			if valid[c] == 0 {
				outside(t, c, full, n)
			}
		})
	}
	for _, n := range odd {
		for _, s := range []api.Set{{}, {1}, every(8).set()} {
			each(func(c api.Cube) {
				if c.Mask%51 == 0 && c.Val%17 == 0 {
					outside(t, c, s, n)
				}
			})
		}
	}
}

// TestGrow is about P9.2: all cubes, in all sets of up to three inputs and some of more.
func TestGrow(t *testing.T) {
	sets(func(w world, x points) {
		s, in := x.set(), w.within(x)
		for k, c := range w.cubes {
			if !in[k] {
				outside(t, c.cube, s, w.n)
				continue
			}
			want := w.cubes[w.grown(in, k)]
			if got, e := prime.Grow(c.cube, s, w.n); e != api.OK || got != want.cube {
				t.Fatalf("Grow(%q, %v, %d) = %v, %d, not %q", c.text, s, w.n, got, e, want.text)
			}
		}
	})
}

// TestGrowLists is about P9.2: cubes that are told by their texts: lower inputs go first, and one that is needed at its turn stays.
func TestGrowLists(t *testing.T) {
	for _, c := range []struct {
		n, points  int
		text, want string
	}{
		{0, 1, "", ""},
		{1, 3, "0", "-"},
		{2, 0b1110, "11", "-1"},
		{2, 0b1110, "10", "1-"},
		{2, 0b1110, "01", "-1"},
		{2, 0b1110, "1-", "1-"},
		{2, 0b1001, "11", "11"},
		{3, 0b01111110, "100", "1-0"},
		{3, 0b01111110, "110", "-10"},
		{3, 0b01111110, "011", "0-1"},
		{3, 0b11101010, "111", "-11"},
		{3, 0b11101010, "110", "1--"},
		{3, 0b11101010, "11-", "1--"},
		{3, 0x7f, "000", "--0"},
		{3, 0x7f, "00-", "-0-"},
		{4, 0xfffe, "1111", "---1"},
		{4, 0xfffe, "1100", "-1--"},
	} {
		s := numbered(c.n, c.points).set()
		if got, e := prime.Grow(of(c.text), s, c.n); e != api.OK || got != of(c.want) {
			t.Errorf("Grow(%q, %b) = %v, %d, not %q", c.text, c.points, got, e, c.want)
		}
	}
}

// TestContained is about P9.3: a prime contains each cube within, and together they have the points of the set.
func TestContained(t *testing.T) {
	sets(func(w world, x points) {
		s := x.set()
		l, e := prime.All(s, w.n)
		if e != api.OK {
			t.Fatalf("All(%v, %d): %d", s, w.n, e)
		}
		var together api.Set
		for _, c := range l {
			p, e := cube.Points(c, w.n)
			if e != api.OK || !prime.Prime(c, s, w.n) {
				t.Fatalf("All(%v, %d) has %v, which is not prime", s, w.n, c)
			}
			together = set.Or(together, p)
		}
		if together != s {
			t.Fatalf("All(%v, %d) has the points %v", s, w.n, together)
		}
		for _, c := range w.cubes {
			in := slices.ContainsFunc(l, func(wide api.Cube) bool { return cube.Holds(wide, c.cube) })
			if prime.Within(c.cube, s, w.n) != in {
				t.Fatalf("%q, %v, %d: a prime contains it: %v", c.text, s, w.n, in)
			}
		}
	})
}

// TestGrown is about P9.4: what Grow returns is prime, is one of all, and contains what it was made of.
func TestGrown(t *testing.T) {
	sets(func(w world, x points) {
		s := x.set()
		all, _ := prime.All(s, w.n)
		for _, c := range w.cubes {
			got, e := prime.Grow(c.cube, s, w.n)
			if (e == api.OK) != prime.Within(c.cube, s, w.n) {
				t.Fatalf("Grow(%q, %v, %d): %d", c.text, s, w.n, e)
			}
			if e == api.OK && (!cube.Holds(got, c.cube) || !prime.Prime(got, s, w.n) || !slices.Contains(all, got)) {
				t.Fatalf("Grow(%q, %v, %d) = %v", c.text, s, w.n, got)
			}
		}
	})
}

// TestOtherPoints is about P9.1 and P9.2: a cube with a point that is not in the set is not within, whatever points of more inputs are.
func TestOtherPoints(t *testing.T) {
	for n := range 8 {
		w := worldOf(n)
		next := random(uint32(n))
		for range 10 {
			x := pick(8, func(p int) bool { return p >= 1<<n || next(4) > 0 })
			for k, in := range w.within(x) {
				if !in {
					outside(t, w.cubes[k].cube, x.set(), n)
				}
			}
		}
	}
}

// TestExample is the chapter's.
func TestExample(t *testing.T) {
	l, e := prime.All(api.Set{0b1110}, 2)
	if e != api.OK || !slices.Equal(l, []api.Cube{{Mask: 1, Val: 1}, {Mask: 2, Val: 2}}) {
		t.Errorf("All = %v, %d", l, e)
	}
}

// TestMemory is about P0 (R3): what a call returned is nobody else's, spare capacity included.
func TestMemory(t *testing.T) {
	s := band(6, 2, 4).set()
	first, _ := prime.All(s, 6)
	second, _ := prime.All(s, 6)
	want := slices.Clone(second)
	first = first[:cap(first)]
	for k := range first {
		first[k] = api.Cube{Mask: 85, Val: 85}
	}
	if third, e := prime.All(s, 6); e != api.OK || !slices.Equal(second, want) || !slices.Equal(third, want) {
		t.Errorf("All shares memory: %v, %v, not %v", second, third, want)
	}
}

// TestSame is about P0 (R1, R4): any arguments, always with the same results.
func TestSame(t *testing.T) {
	type answer struct {
		within, prime bool
		grown         api.Cube
		e             api.Errno
	}
	ask := func(c api.Cube, s api.Set, n int) answer {
		var a answer
		a.within, a.prime = prime.Within(c, s, n), prime.Prime(c, s, n)
		a.grown, a.e = prime.Grow(c, s, n)
		return a
	}
	next := random(98)
	for round := range 2000 {
		s := pick(8, func(int) bool { return next(16) < round%17 }).set()
		c := api.Cube{Mask: uint8(next(256)), Val: uint8(next(256))}
		for _, n := range append([]int{0, 3, 7, 8}, odd...) {
			if first, second := ask(c, s, n), ask(c, s, n); first != second {
				t.Fatalf("%v, %v, %d: %v, then %v", c, s, n, first, second)
			}
		}
	}
	for _, x := range someSets(8) {
		first, e := prime.All(x.set(), 8)
		for range 3 {
			if again, f := prime.All(x.set(), 8); e != f || !slices.Equal(first, again) {
				t.Fatalf("All(%v, 8) = %v, then %v", x.set(), first, again)
			}
		}
	}
}
