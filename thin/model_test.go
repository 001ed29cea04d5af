package thin_test

import (
	"math"
	"slices"
	"strings"
	"testing"

	"drawknife/api"
	"drawknife/cube"
	"drawknife/multi"
	"drawknife/thin"
)

// odd are numbers that are no numbers of inputs.
var odd = []int{-1, -2, -8, -64, 9, 10, 16, 64, 255, 256, 257, math.MaxInt32, math.MinInt32, math.MaxInt, math.MaxInt - 1, math.MinInt, math.MinInt + 1}

// A told is a spec that is told by texts, one for each output: at the place of each point there is a 1 if it must be on, a - if it may be on, and a 0 if it may not. Its rows are told by texts like those of a table: "1- 01".
type told struct {
	in   int
	says []string
}

// where are the places of a text with one of these bytes.
func where(text, bytes string) api.Set {
	var s api.Set
	for p := range text {
		if strings.Contains(bytes, text[p:p+1]) {
			s[p/64] += uint64(math.Pow(2, float64(p%64)))
		}
	}
	return s
}

// spec makes the spec.
func (x told) spec() api.Spec {
	s := api.Spec{In: x.in}
	for _, text := range x.says {
		s.On = append(s.On, where(text, "1"))
		s.May = append(s.May, where(text, "1-"))
	}
	return s
}

// row makes the row of a text.
func row(t testing.TB, text string) api.Row {
	t.Helper()
	literals, outs, _ := strings.Cut(text, " ")
	c, e := cube.Parse(literals)
	o, f := cube.Parse(outs)
	if e != api.OK || f != api.OK {
		t.Fatalf("%q: %d, %d", text, e, f)
	}
	return api.Row{Cube: c, Outs: o.Val}
}

// rows makes those of texts.
func rows(t testing.TB, texts []string) []api.Row {
	t.Helper()
	var l []api.Row
	for _, text := range texts {
		l = append(l, row(t, text))
	}
	return l
}

// texts tells rows of x.
func (x told) texts(t testing.TB, l []api.Row) []string {
	t.Helper()
	var said []string
	for _, r := range l {
		text, e := cube.Text(r.Cube, x.in)
		if e != api.OK || r.Outs == 0 || r.Outs>>len(x.says) > 0 {
			t.Fatalf("%v is no row of %v: %d", r, x, e)
		}
		text += " "
		for o := range x.says {
			text += []string{"0", "1"}[r.Outs>>o%2]
		}
		said = append(said, text)
	}
	return said
}

// contains tells by the text whether a point is in a cube.
func contains(text string, p int) bool {
	for i := range len(text) {
		if text[i] == '0' && p>>i%2 == 1 || text[i] == '1' && p>>i%2 == 0 {
			return false
		}
	}
	return true
}

// out tells whether a row has output o.
func out(text string, o int) bool {
	_, outs, _ := strings.Cut(text, " ")
	return outs[o] == '1'
}

// on tells for each point whether one of the rows has it, for output o.
func (x told) on(l []string, o int) []bool {
	has := make([]bool, 1<<x.in)
	for _, text := range l {
		literals, _, _ := strings.Cut(text, " ")
		for p := range has {
			has[p] = has[p] || out(text, o) && contains(literals, p)
		}
	}
	return has
}

// covered tells point by point whether rows do what is told of output o.
func (x told) covered(l []string, o int) bool {
	for p, has := range x.on(l, o) {
		if has && x.says[o][p] == '0' || !has && x.says[o][p] == '1' {
			return false
		}
	}
	return true
}

// covers tells whether rows do so for all outputs.
func (x told) covers(l []string) bool {
	for o := range x.says {
		if !x.covered(l, o) {
			return false
		}
	}
	return true
}

// without are the rows without output o of the one at place k, and without this one if it has no other.
func without(l []string, k, o int) []string {
	literals, outs, _ := strings.Cut(l[k], " ")
	outs = outs[:o] + "0" + outs[o+1:]
	if !strings.Contains(outs, "1") {
		return slices.Concat(l[:k], l[k+1:])
	}
	return slices.Concat(l[:k], []string{literals + " " + outs}, l[k+1:])
}

// thinned tells the thinned rows of rows that cover x.
func (x told) thinned(l []string) []string {
	for k := 0; k < len(l); {
		many := len(l)
		for o := range x.says {
			if len(l) == many && out(l[k], o) && x.covers(without(l, k, o)) {
				l = without(l, k, o)
			}
		}
		if len(l) == many {
			k++
		}
	}
	return l
}

// needed tells whether rows cover x, and do not without any one output of any one row.
func (x told) needed(l []string) bool {
	for k, text := range l {
		for o := range x.says {
			if out(text, o) && x.covers(without(l, k, o)) {
				return false
			}
		}
	}
	return x.covers(l)
}

// half is what a text says of the points whose input 0, which is gone then, is value.
func half(text string, value int) string {
	s := ""
	for p := value; p < len(text); p += 2 {
		s += text[p : p+1]
	}
	return s
}

// cover tells the cubes that isop.Cover has for what a text says of the points of n inputs.
func cover(says string, n int) []string {
	if !strings.Contains(says, "1") {
		return nil
	}
	if !strings.Contains(says, "0") {
		return []string{strings.Repeat("-", n)}
	}
	sides := []string{half(says, 0), half(says, 1)}
	rest := []byte(strings.Repeat("-", len(sides[0])))
	var l []string
	for k, side := range sides {
		other := sides[1-k]
		alone := []byte(side) // a point must be on by itself only where the other side may not have it
		for p := range alone {
			if side[p] == '1' && other[p] != '0' {
				alone[p] = '-'
			}
		}
		some := cover(string(alone), n-1)
		for p := range rest {
			if side[p] == '0' {
				rest[p] = '0'
			}
			if side[p] == '1' && rest[p] == '-' && !slices.ContainsFunc(some, func(text string) bool { return contains(text, p) }) {
				rest[p] = '1'
			}
		}
		for _, text := range some {
			l = append(l, []string{"0", "1"}[k]+text)
		}
	}
	for _, text := range cover(string(rest), n-1) {
		l = append(l, "-"+text)
	}
	return l
}

// within tells whether all points of a cube may be on for output o.
func (x told) within(text string, o int) bool {
	for p := range x.says[o] {
		if x.says[o][p] == '0' && contains(text, p) {
			return false
		}
	}
	return true
}

// plain tells the plain rows.
func (x told) plain() []string {
	var l []string
	for o, says := range x.says {
		for _, text := range cover(says, x.in) {
			for i := range x.in {
				if wider := text[:i] + "-" + text[i+1:]; x.within(wider, o) {
					text = wider
				}
			}
			grown := text + " "
			for other := range x.says {
				grown += map[bool]string{false: "0", true: "1"}[x.within(text, other)]
			}
			if !slices.Contains(l, grown) {
				l = append(l, grown)
			}
		}
	}
	return l
}

// random returns a function whose next number is below n.
func random(seed uint64) func(n int) int {
	return func(n int) int {
		seed = seed*6364136223846793005 + 1442695040888963407
		return int(seed>>33) % n
	}
}

// word makes a word of n bytes out of the given ones.
func word(next func(n int) int, n int, bytes string) string {
	var w strings.Builder
	for range n {
		w.WriteByte(bytes[next(len(bytes))])
	}
	return w.String()
}

// words are all words of n bytes out of the given ones.
func words(n int, bytes string) []string {
	l := []string{""}
	for range n {
		var longer []string
		for _, w := range l {
			for i := range len(bytes) {
				longer = append(longer, w+bytes[i:i+1])
			}
		}
		l = longer
	}
	return l
}

// allTold are all specs of so many inputs and outputs.
func allTold(in, outs int) []told {
	l := []told{{in: in}}
	for range outs {
		var longer []told
		for _, x := range l {
			for _, text := range words(1<<in, "01-") {
				longer = append(longer, told{in, slices.Concat(x.says, []string{text})})
			}
		}
		l = longer
	}
	return l
}

// allRows are all rows of so many inputs and outputs.
func allRows(in, outs int) []string {
	var l []string
	for _, literals := range words(in, "01-") {
		for _, has := range words(outs, "01") {
			if strings.Contains(has, "1") {
				l = append(l, literals+" "+has)
			}
		}
	}
	return l
}

// lists are all lists of up to n of the rows.
func lists(rows []string, n int) [][]string {
	l := [][]string{nil}
	last := l
	for range n {
		var longer [][]string
		for _, x := range last {
			for _, text := range rows {
				longer = append(longer, slices.Concat(x, []string{text}))
			}
		}
		l = append(l, longer...)
		last = longer
	}
	return l
}

// some are n rows at random, each with an output.
func some(next func(n int) int, in, outs, n int) []string {
	var l []string
	for len(l) < n {
		if has := word(next, outs, "01"); strings.Contains(has, "1") {
			l = append(l, word(next, in, "01-")+" "+has)
		}
	}
	return l
}

// of tells a spec that rows cover: of the points that they have some must be on, and of the others some may be.
func of(next func(n int) int, in, outs int, l []string) told {
	x := told{in: in}
	for o := range outs {
		text := ""
		for _, has := range (told{in: in}).on(l, o) {
			text += word(next, 1, map[bool]string{false: "000-", true: "111-"}[has])
		}
		x.says = append(x.says, text)
	}
	return x
}

// mixed are specs of which nothing, all and some must or may be on, and those of some rows.
func mixed(next func(n int) int, in, outs int) []told {
	var l []told
	for _, bytes := range []string{"0", "1", "-", "01", "01-", "0-1-", "11-", "1111-0", "0000-1", "1----0"} {
		x := told{in: in}
		for range outs {
			x.says = append(x.says, word(next, 1<<in, bytes))
		}
		l = append(l, x)
	}
	for _, n := range []int{2, 1 + in, 3 + 2*in} {
		l = append(l, of(next, in, outs, some(next, in, outs, n)))
	}
	return l
}

// singles are rows that cover x, one for each point that must be on, with all outputs for which it may be.
func (x told) singles() []string {
	var l []string
	for p := range 1 << x.in {
		text, must := "", false
		for i := range x.in {
			text += []string{"0", "1"}[p>>i%2]
		}
		text += " "
		for _, says := range x.says {
			must = must || says[p] == '1'
			text += map[bool]string{false: "0", true: "1"}[says[p] != '0']
		}
		if must {
			l = append(l, text)
		}
	}
	return l
}

// covering are lists of rows that cover x: plain ones, prime ones, single points, and these together, in their order and others.
func (x told) covering(t testing.TB, next func(n int) int) [][]string {
	t.Helper()
	primes, e := multi.All(x.spec())
	if e != api.OK {
		t.Fatalf("All(%v): %d", x, e)
	}
	plain, prime, single := x.plain(), x.texts(t, primes), x.singles()
	l := [][]string{plain, prime, single, slices.Concat(plain, plain), slices.Concat(prime, plain), slices.Concat(plain, single), slices.Concat(single, prime)}
	for _, list := range slices.Clone(l) {
		back, mixed := slices.Clone(list), slices.Clone(list)
		slices.Reverse(back)
		for k := range mixed {
			other := next(k + 1)
			mixed[k], mixed[other] = mixed[other], mixed[k]
		}
		l = append(l, back, mixed)
	}
	return l
}

// refused checks that nothing is thinned, and nothing is needed.
func refused(t testing.TB, s api.Spec, l []api.Row) {
	t.Helper()
	if got, e := thin.Thin(s, l); e != api.ErrArg || len(got) != 0 {
		t.Fatalf("Thin(%v, %v) = %v, %d", s, l, got, e)
	}
	if thin.Needed(s, l) {
		t.Fatalf("Needed(%v, %v)", s, l)
	}
}

// becomes checks that rows are thinned to want, and are needed only if they are that already.
func (x told) becomes(t testing.TB, l, want []string) {
	t.Helper()
	s, given := x.spec(), rows(t, l)
	if got, e := thin.Thin(s, given); e != api.OK || !slices.Equal(got, rows(t, want)) {
		t.Fatalf("Thin(%v, %q) = %q, %d, not %q", x, l, x.texts(t, got), e, want)
	}
	if got := thin.Needed(s, given); got != slices.Equal(l, want) {
		t.Fatalf("Needed(%v, %q) = %v", x, l, got)
	}
}

// checked tests both calls for rows that cover x, or do not.
func (x told) checked(t testing.TB, l []string) {
	t.Helper()
	if !x.covers(l) {
		refused(t, x.spec(), rows(t, l))
		return
	}
	x.becomes(t, l, x.thinned(l))
	if got := thin.Needed(x.spec(), rows(t, l)); got != x.needed(l) {
		t.Fatalf("Needed(%v, %q) = %v", x, l, got)
	}
}

// hasPlain checks what Plain returns.
func (x told) hasPlain(t testing.TB, want []string) {
	t.Helper()
	if got, e := thin.Plain(x.spec()); e != api.OK || !slices.Equal(got, rows(t, want)) {
		t.Fatalf("Plain(%v) = %q, %d, not %q", x, x.texts(t, got), e, want)
	}
}
