package thin_test

import (
	"slices"
	"strings"
	"testing"

	"drawknife/api"
	"drawknife/cube"
	"drawknife/multi"
	"drawknife/spec"
	"drawknife/thin"
)

// TestSmall is about P16.1 and P16.2: all specs of a size, and all lists of a few rows, whether they cover or not.
func TestSmall(t *testing.T) {
	for _, size := range []struct{ in, outs, rows int }{{0, 1, 5}, {0, 2, 4}, {0, 3, 3}, {0, 4, 2}, {1, 1, 6}, {1, 2, 4}, {2, 1, 4}} {
		all := lists(allRows(size.in, size.outs), size.rows)
		for _, x := range allTold(size.in, size.outs) {
			for _, l := range all {
				x.checked(t, l)
			}
		}
	}
}

// each calls what is tested with mixed specs of all sizes, and rows that cover them.
func each(t testing.TB, test func(x told, l []string)) {
	for in := range 9 {
		for outs := 1; outs <= 4; outs++ {
			next := random(uint64(10*in + outs))
			for _, x := range mixed(next, in, outs) {
				for _, l := range x.covering(t, next) {
					test(x, l)
				}
			}
			l := some(next, in, outs, 8+in)
			test(of(next, in, outs, l), l)
		}
	}
}

// TestMixed is about P16.1 and P16.2: rows that cover, up to eight inputs and four outputs.
func TestMixed(t *testing.T) {
	many := 0
	each(t, func(x told, l []string) {
		if len(l)<<x.in > 1500 {
			return
		}
		many++
		x.checked(t, l)
	})
	if many < 5000 {
		t.Errorf("only %d lists", many)
	}
}

// tried are the rows after all removals, each of which spec.Covers permits.
func tried(s api.Spec, l []api.Row) []api.Row {
	l = slices.Clone(l)
	for k := 0; k < len(l); {
		for o := range s.On {
			before := l[k]
			if before.Outs>>o%2 == 0 {
				continue
			}
			l[k].Outs -= 1 << o
			left := slices.DeleteFunc(slices.Clone(l), func(x api.Row) bool { return x.Outs == 0 })
			if !spec.Covers(s, left) {
				l[k] = before
			}
		}
		if l[k].Outs == 0 {
			l = slices.Delete(l, k, k+1)
			continue
		}
		k++
	}
	return l
}

// TestLong is about P16.1 and P16.2: some hundred rows.
func TestLong(t *testing.T) {
	longest, lists := 0, 0
	each(t, func(x told, l []string) {
		if lists++; x.in < 6 || len(l) < 60 || len(l) > 300 || lists%7 > 0 {
			return
		}
		longest = max(longest, len(l))
		given := rows(t, l)
		x.becomes(t, l, x.texts(t, tried(x.spec(), given)))
	})
	if longest < 250 {
		t.Errorf("at most %d rows", longest)
	}
}

// split are the texts of a list.
func split(text string) []string {
	if text == "" {
		return nil
	}
	return strings.Split(text, ",")
}

// TestThinTold is about P16.1 and P16.2: what is removed is told by hand. The order of the rows matters; outputs go one by one.
func TestThinTold(t *testing.T) {
	for _, c := range []struct {
		name    string
		x       told
		l, want string
	}{
		{"no rows, and nothing that must be on", told{2, []string{"0000"}}, "", ""},
		{"a row for nothing that must be on", told{2, []string{"----"}}, "1- 1", ""},
		{"rows for nothing that must be on", told{2, []string{"----", "0-00", "--00"}}, "-0 101,10 111,00 001", ""},
		{"equal rows", told{1, []string{"01"}}, "1 1,1 1", "1 1"},
		{"three equal rows, and one between them", told{1, []string{"11"}}, "1 1,0 1,1 1,1 1", "0 1,1 1"},
		{"a row within a later one", told{2, []string{"0101"}}, "11 1,1- 1", "1- 1"},
		{"a row within an earlier one", told{2, []string{"0101"}}, "1- 1,11 1", "1- 1"},
		{"a row that is covered by an earlier one but for a point that only may be on", told{2, []string{"01-1"}}, "1- 1,-1 1", "1- 1"},
		{"the same, back", told{2, []string{"01-1"}}, "-1 1,1- 1", "1- 1"},
		{"a row that two others cover together", told{2, []string{"1111"}}, "-1 1,0- 1,1- 1", "0- 1,1- 1"},
		{"a row that two others cover together, at last", told{2, []string{"1111"}}, "0- 1,1- 1,-1 1", "0- 1,1- 1"},
		{"a row for which others have gone is needed", told{2, []string{"0111"}}, "11 1,01 1,10 1,1- 1", "01 1,1- 1"},
		{"the same, back: the first row goes for three others", told{2, []string{"0111"}}, "1- 1,10 1,01 1,11 1", "10 1,01 1,11 1"},
		{"all go for the last one", told{2, []string{"1111"}}, "00 1,11 1,10 1,-- 1", "-- 1"},
		{"the greatest row goes for several others", told{2, []string{"1111"}}, "-- 1,00 1,1- 1,-1 1", "00 1,1- 1,-1 1"},
		{"a ring", told{3, []string{"01111110"}}, "1-0 1,-10 1,01- 1,0-1 1,-01 1,10- 1", "-10 1,0-1 1,10- 1"},
		{"a ring, the other way", told{3, []string{"01111110"}}, "1-0 1,-01 1,01- 1,10- 1,-10 1,0-1 1", "10- 1,-10 1,0-1 1"},
		{"an output of a row", told{1, []string{"01", "11"}}, "1 11,- 01", "1 10,- 01"},
		{"the last output of a row", told{1, []string{"01", "11"}}, "1 01,- 01,1 10", "- 01,1 10"},
		{"a row keeps the output that it alone has", told{1, []string{"01", "01"}}, "1 11,1 01", "1 10,1 01"},
		{"the last row has all outputs", told{1, []string{"01", "01"}}, "1 01,1 10,1 11", "1 11"},
		{"each output stays with another row", told{0, []string{"1", "1", "1"}}, " 111, 011, 001", " 100, 010, 001"},
		{"the outputs 1 and 3", told{0, []string{"0", "1", "0", "1"}}, " 0101, 0001", " 0100, 0001"},
		{"an output that need not be on", told{1, []string{"01", "-1", "--"}}, "1 101,1 011", "1 100,1 010"},
		{"a row loses all its outputs, one for each other row", told{1, []string{"01", "11", "10"}}, "1 110,0 011,- 010,1 100", "0 001,- 010,1 100"},
		{"nothing is removed", told{3, []string{"10000001", "00000001"}}, "111 11,000 10", "111 11,000 10"},
	} {
		t.Run(c.name, func(t *testing.T) { c.x.becomes(t, split(c.l), split(c.want)) })
	}
}

// TestNeededTold is about P16.2: rows that cover, those of which an output or a row can go, and those that do not cover.
func TestNeededTold(t *testing.T) {
	for _, c := range []struct {
		name string
		x    told
		l    string
		want bool
	}{
		{"no rows, and nothing that must be on", told{2, []string{"----", "0000"}}, "", true},
		{"no rows, and a point that must be on", told{2, []string{"0000", "0001"}}, "", false},
		{"a row for nothing that must be on", told{2, []string{"----"}}, "1- 1", false},
		{"an output that need not be on", told{0, []string{"1", "-"}}, " 11", false},
		{"the same without it", told{0, []string{"1", "-"}}, " 10", true},
		{"equal rows", told{1, []string{"01"}}, "1 1,1 1", false},
		{"a row for all", told{2, []string{"1111"}}, "-- 1", true},
		{"rows for one point each", told{2, []string{"1111"}}, "00 1,10 1,01 1,11 1", true},
		{"rows with a point in common", told{2, []string{"0111"}}, "1- 1,-1 1", true},
		{"rows with no more than a point in common", told{2, []string{"0-01"}}, "1- 1,11 1", false},
		{"the last row is covered by two others", told{2, []string{"1111"}}, "0- 1,1- 1,-1 1", false},
		{"the first output of the last row", told{1, []string{"01", "11"}}, "- 01,1 11", false},
		{"the last output of the first row", told{1, []string{"11", "01"}}, "1 01,- 11", false},
		{"two outputs, each of one row alone", told{1, []string{"01", "11"}}, "- 01,1 10", true},
		{"two outputs of one row", told{1, []string{"01", "01"}}, "1 11", true},
		{"one point too few", told{2, []string{"0111"}}, "1- 1", false},
		{"one point too many", told{2, []string{"0111"}}, "-- 1", false},
		{"a point for the wrong output", told{1, []string{"01", "10"}}, "1 11,0 01", false},
	} {
		if got := thin.Needed(c.x.spec(), rows(t, split(c.l))); got != c.want {
			t.Errorf("%s: Needed is %v", c.name, got)
		}
	}
}

// TestEachPoint is about P16.1 and P16.2: for all numbers of inputs and each point of theirs, a row for it is needed if it alone must be on, or if the others leave it out, and otherwise not.
func TestEachPoint(t *testing.T) {
	for in := range 9 {
		for p := range 1 << in {
			all := strings.Repeat("-", 1<<in)
			alone := told{in, []string{all[:p] + "1" + all[p+1:]}}
			corner := alone.singles()[0]
			wide := strings.Repeat("-", in) + " 1"
			alone.becomes(t, []string{corner}, []string{corner})
			alone.becomes(t, []string{corner, wide}, []string{wide})
			alone.becomes(t, []string{wide, corner}, []string{corner})
			l := []string{corner}
			for i := range in { // those in which one input is another one than in the corner
				l = append(l, strings.Repeat("-", i)+map[byte]string{'0': "1", '1': "0"}[corner[i]]+strings.Repeat("-", in-i-1)+" 1")
			}
			every := told{in, []string{strings.Repeat("1", 1<<in)}}
			every.becomes(t, l, l)
			slices.Reverse(l)
			every.becomes(t, l, l)
			every.becomes(t, append(l, wide), []string{wide})
		}
	}
}

// TestMany is about P16.1 and P16.2: more equal rows than a byte, or two bytes, can count. Only the last one is left.
func TestMany(t *testing.T) {
	free := strings.Repeat("-", 254)
	x := told{8, []string{"1" + free + "1", "1-" + free}}
	s, wide, half := x.spec(), row(t, "-------- 11"), row(t, "0------- 01")
	for _, n := range []int{1, 2, 3, 64, 65, 255, 256, 257, 4001, 65535, 65536, 65537} {
		l := slices.Repeat([]api.Row{wide}, n)
		if got, e := thin.Thin(s, l); e != api.OK || !slices.Equal(got, []api.Row{wide}) || thin.Needed(s, l) != (n == 1) {
			t.Errorf("%d rows: %d, %d", n, len(got), e)
		}
		l = append(l, half)
		if got, e := thin.Thin(s, l); e != api.OK || !slices.Equal(got, []api.Row{{Outs: 1}, half}) || thin.Needed(s, l) {
			t.Errorf("%d rows and one: %d, %d", n, len(got), e)
		}
	}
}

// TestAgain is about P16.3: thinned rows are needed, and thinning them again changes nothing.
func TestAgain(t *testing.T) {
	each(t, func(x told, l []string) {
		s := x.spec()
		got, e := thin.Thin(s, rows(t, l))
		if e != api.OK || !spec.Covers(s, got) || !thin.Needed(s, got) {
			t.Fatalf("Thin(%v, %q) = %v, %d, which is not needed", x, l, got, e)
		}
		if again, e := thin.Thin(s, got); e != api.OK || !slices.Equal(again, got) {
			t.Fatalf("Thin(%v, %v) = %v, %d", x, got, again, e)
		}
	})
}

// TestPlain is about P16.1: all specs of a size, and mixed ones.
func TestPlain(t *testing.T) {
	for _, size := range []struct{ in, outs int }{{0, 1}, {0, 2}, {0, 3}, {0, 4}, {1, 1}, {1, 2}, {1, 3}, {1, 4}, {2, 1}, {2, 2}, {3, 1}} {
		for _, x := range allTold(size.in, size.outs) {
			x.hasPlain(t, x.plain())
		}
	}
	longest := 0
	for in := range 9 {
		for outs := 1; outs <= 4; outs++ {
			next := random(uint64(200 + 10*in + outs))
			for range 5 {
				for _, x := range mixed(next, in, outs) {
					l := x.plain()
					x.hasPlain(t, l)
					longest = max(longest, len(l))
				}
			}
		}
	}
	if longest < 200 {
		t.Errorf("at most %d rows", longest)
	}
}

// TestPlainTold is about P16.1: plain rows that are told by hand. Those of the first outputs come first, each in the order of isop, and none again.
func TestPlainTold(t *testing.T) {
	for _, c := range []struct {
		x    told
		want string
	}{
		{told{0, []string{"0"}}, ""},
		{told{0, []string{"-"}}, ""},
		{told{0, []string{"1"}}, " 1"},
		{told{0, []string{"0", "1", "-", "1"}}, " 0111"},
		{told{1, []string{"-1"}}, "- 1"},
		{told{1, []string{"01", "11"}}, "1 11,- 01"},
		{told{1, []string{"11", "01"}}, "- 10,1 11"},
		{told{1, []string{"11", "--"}}, "- 11"},
		{told{1, []string{"--", "01"}}, "1 11"},
		{told{1, []string{"01", "10", "11"}}, "1 101,0 011,- 001"},
		{told{1, []string{"01", "01", "01"}}, "1 111"},
		{told{2, []string{"0111"}}, "1- 1,-1 1"},
		{told{2, []string{"0001", "0011", "0101"}}, "11 111,-1 010,1- 001"},
		{told{2, []string{"0101", "0111", "0011"}}, "1- 110,-1 011"},
		{told{2, []string{"0111", "0011", "0101", "0111"}}, "1- 1011,-1 1101"},
		{told{2, []string{"0110", "-11-"}}, "01 11,10 11,-- 01"},
		{told{3, []string{"01111110"}}, "0-1 1,1-0 1,-01 1,-10 1"},
		{told{3, []string{"01111110", "01101001"}}, "0-1 10,1-0 10,-01 10,-10 10,001 11,010 11,100 11,111 01"},
	} {
		c.x.hasPlain(t, split(c.want))
	}
}

// TestPlainPrime is about P16.4: plain rows are prime, each occurs once, and they cover the spec.
func TestPlainPrime(t *testing.T) {
	next := random(16)
	for in := range 9 {
		for outs := 1; outs <= 4; outs++ {
			for range 4 {
				for _, x := range mixed(next, in, outs) {
					s := x.spec()
					l, e := thin.Plain(s)
					if e != api.OK || !spec.Covers(s, l) {
						t.Fatalf("Plain(%v) = %v, %d, which does not cover", x, l, e)
					}
					for k, r := range l {
						if !multi.Prime(s, r) || slices.Contains(l[:k], r) {
							t.Fatalf("Plain(%v) = %v", x, l)
						}
					}
				}
			}
		}
	}
}

// wrong are specs each of which is not valid in one way.
func wrong() []api.Spec {
	none := make([]api.Set, 5)
	l := []api.Spec{
		{}, {In: 2}, {In: 8}, {In: 1, On: []api.Set{}, May: []api.Set{}},
		{In: 2, On: none, May: none}, {In: 1, May: none[:1]}, {In: 1, On: none[:1]},
		{In: 2, On: none[:1], May: none[:2]}, {In: 2, On: none[:2], May: none[:1]}, {In: 2, On: none[:3], May: none[:4]},
		{In: 2, On: none[:4], May: none}, {In: 2, On: none, May: none[:4]},
		{In: 2, On: make([]api.Set, 300), May: make([]api.Set, 300)},
		{In: 0, On: none[:1], May: []api.Set{{3}}}, {In: 1, On: none[:2], May: []api.Set{{3}, {7}}},
		{In: 1, On: none[:2], May: []api.Set{{3}, {3, 0, 0, 1 << 63}}}, {In: 6, On: none[:1], May: []api.Set{{1, 1}}},
		{In: 2, On: []api.Set{{4}, {}}, May: []api.Set{{3}, {15}}}, {In: 2, On: []api.Set{{}, {1}}, May: []api.Set{{15}, {14}}},
		{In: 8, On: []api.Set{{0, 0, 0, 1}, {}}, May: []api.Set{{15}, {15}}},
	}
	for _, n := range odd {
		l = append(l, api.Spec{In: n, On: none[:2], May: []api.Set{{3}, {3}}}, api.Spec{In: n, On: none[:1], May: none[:1]})
	}
	return l
}

// TestWrongSpecs is about P16.1 and P16.2: a spec that is not valid, with and without rows.
func TestWrongSpecs(t *testing.T) {
	for _, s := range wrong() {
		if l, e := thin.Plain(s); e != api.ErrArg || len(l) != 0 {
			t.Errorf("Plain(%v) = %v, %d", s, l, e)
		}
		for _, l := range [][]string{nil, {" 1"}, {" 01"}, {" 11", " 10"}, {"1 1"}, {"1- 1", "-1 1"}, {"00000000 1"}} {
			refused(t, s, rows(t, l))
		}
		refused(t, s, []api.Row{{Cube: api.Cube{Mask: 255, Val: 255}, Outs: 255}})
	}
}

// TestWrongRows is about P16.1 and P16.2: a row that is not permitted, at any place, also where it is not needed: all Outs, and all cubes that are not valid.
func TestWrongRows(t *testing.T) {
	for in := range 9 {
		for outs := 1; outs <= 4; outs++ {
			x := told{in: in}
			for range outs {
				x.says = append(x.says, strings.Repeat("-1", 1<<in)[:1<<in])
			}
			good := api.Row{Outs: 1<<outs - 1}
			with := func(bad api.Row) {
				t.Helper()
				for _, l := range [][]api.Row{{bad}, {bad, good}, {good, bad}, {good, bad, good}} {
					refused(t, x.spec(), l)
				}
			}
			for has := range 256 {
				if has == 0 || has >= 1<<outs {
					with(api.Row{Outs: uint8(has)})
				}
			}
			for k := range 256 * 256 {
				c := api.Cube{Mask: uint8(k / 256), Val: uint8(k)}
				if !cube.Right(c, in) && k%29 == outs {
					with(api.Row{Cube: c, Outs: 1})
				}
			}
		}
	}
}

// TestNotCovering is about P16.1 and P16.2: rows that cover but for one point, and those that have one point too many, with each output.
func TestNotCovering(t *testing.T) {
	next := random(17)
	for in := range 9 {
		for outs := 1; outs <= 4; outs++ {
			l := some(next, in, outs, 2+in)
			for o := range outs {
				x := told{in: in}
				for other := range outs {
					says := ""
					for _, has := range x.on(l, other) {
						says += map[bool]string{false: "0", true: "1"}[has]
					}
					x.says = append(x.says, says)
				}
				given, says := rows(t, l), x.says[o]
				if _, e := thin.Thin(x.spec(), given); e != api.OK {
					t.Fatalf("Thin(%v, %q): %d", x, l, e)
				}
				for p := range says {
					x.says[o] = says[:p] + map[byte]string{'0': "1", '1': "0"}[says[p]] + says[p+1:]
					refused(t, x.spec(), given)
				}
			}
		}
	}
}

// TestExamples are the chapter's, and those of the whole about three points.
func TestExamples(t *testing.T) {
	s := api.Spec{In: 1, On: []api.Set{{2}}, May: []api.Set{{2}}}
	x := api.Row{Cube: api.Cube{Mask: 1, Val: 1}, Outs: 1}
	if l, e := thin.Thin(s, []api.Row{x, x}); e != api.OK || !slices.Equal(l, []api.Row{x}) {
		t.Errorf("Thin = %v, %d", l, e)
	}
	told{2, []string{"0111"}}.becomes(t, []string{"11 1", "1- 1", "-1 1"}, []string{"1- 1", "-1 1"})
}

// ofRows is a spec that rows cover, and lists of rows of which some are needed.
func ofRows(t testing.TB) (told, [][]string) {
	t.Helper()
	next := random(18)
	l := some(next, 5, 3, 12)
	x := of(next, 5, 3, l)
	return x, append(x.covering(t, next), l)
}

// TestMemory is about P0 (R3): arguments stay as they are, also behind their ends, and what a call returned is nobody else's, spare capacity included.
func TestMemory(t *testing.T) {
	x, lists := ofRows(t)
	s := x.spec()
	mark := api.Row{Cube: api.Cube{Mask: 77}, Outs: 99}
	for _, texts := range lists {
		l := append(rows(t, texts), mark, mark)
		given := l[:len(texts)]
		first, e := thin.Thin(s, given)
		second, _ := thin.Thin(s, given)
		want := slices.Clone(second)
		thin.Needed(s, given)
		first = first[:cap(first)]
		for k := range first {
			first[k] = mark
		}
		if e != api.OK || len(want) == 0 || !slices.Equal(second, want) || !slices.Equal(l, append(rows(t, texts), mark, mark)) {
			t.Fatalf("Thin shares memory: %v, %v, not %v", l, second, want)
		}
		for k := range given {
			given[k] = mark
		}
		if !slices.Equal(second, want) {
			t.Fatalf("Thin keeps its argument: %v, not %v", second, want)
		}
	}
	first, _ := thin.Plain(s)
	second, _ := thin.Plain(s)
	first = first[:cap(first)]
	for k := range first {
		first[k] = mark
	}
	x.hasPlain(t, x.texts(t, second))
	if !spec.Same(s, x.spec()) {
		t.Errorf("the argument has become %v, not %v", s, x.spec())
	}
}

// TestNoRows is about P0 (R3): nil lists and empty ones are the same.
func TestNoRows(t *testing.T) {
	x := told{2, []string{"0-01", "----"}}
	free := told{2, []string{"0--0", "----"}}
	for _, l := range [][]api.Row{nil, {}, make([]api.Row, 0, 5)} {
		refused(t, x.spec(), l)
		if got, e := thin.Thin(free.spec(), l); e != api.OK || len(got) != 0 || !thin.Needed(free.spec(), l) {
			t.Errorf("Thin(%v, %v) = %v, %d", free, l, got, e)
		}
	}
}

// TestSame is about P0 (R1, R4): any arguments, always with the same results.
func TestSame(t *testing.T) {
	next := random(19)
	all := wrong()
	for in := range 9 {
		for _, x := range mixed(next, in, 1+in%4) {
			all = append(all, x.spec())
		}
	}
	for _, s := range all {
		for n := range 8 {
			var l []api.Row
			for range n {
				l = append(l, api.Row{Cube: api.Cube{Mask: uint8(next(256)), Val: uint8(next(256))}, Outs: uint8(next(256))})
			}
			first, e := thin.Thin(s, l)
			again, f := thin.Thin(s, l)
			if e != f || !slices.Equal(first, again) || e != api.OK && (e != api.ErrArg || len(first) != 0) || thin.Needed(s, l) != thin.Needed(s, l) {
				t.Fatalf("Thin(%v, %v) = %v, %d, then %v, %d", s, l, first, e, again, f)
			}
		}
		first, e := thin.Plain(s)
		if again, f := thin.Plain(s); e != f || !slices.Equal(first, again) {
			t.Fatalf("Plain(%v) = %v, then %v", s, first, again)
		}
	}
}
