package cube_test

import (
	"math"
	"strings"
	"testing"

	"drawknife/api"
	"drawknife/cube"
	"drawknife/set"
)

// texts are all texts of n inputs: a text says what a cube is without Mask and Val, so that what is expected does not rest on these.
func texts(n int) []string {
	l := []string{""}
	for range n {
		var longer []string
		for _, s := range l {
			longer = append(longer, s+"0", s+"1", s+"-")
		}
		l = longer
	}
	return l
}

// someTexts are texts of eight inputs: without literals, with all, with one at each place, and mixed ones.
func someTexts() []string {
	l := []string{"--------", "00000000", "11111111", "01010101", "10101010"}
	for i := range 8 {
		for _, lit := range []string{"0", "1"} {
			l = append(l, strings.Repeat("-", i)+lit+strings.Repeat("-", 7-i))
			l = append(l, strings.Repeat("0", i)+lit+strings.Repeat("1", 7-i))
		}
	}
	all := texts(8)
	for k := 5; k < len(all); k += 97 {
		l = append(l, all[k])
	}
	return l
}

// of makes the cube of a text by adding up powers of two.
func of(s string) api.Cube {
	var c api.Cube
	power := 1
	for i := range len(s) {
		if s[i] != '-' {
			c.Mask += uint8(power)
		}
		if s[i] == '1' {
			c.Val += uint8(power)
		}
		power *= 2
	}
	return c
}

// untidy are the cube of a text, and the same with bits of Val that Mask does not have.
func untidy(s string) []api.Cube {
	c := of(s)
	l := []api.Cube{c}
	for _, more := range []uint8{255, 0x55, 0xaa, 1, 128} {
		l = append(l, api.Cube{Mask: c.Mask, Val: c.Val | more&^c.Mask})
	}
	return l
}

// contains tells by the text whether a point is in a cube.
func contains(s string, p int) bool {
	for i := range len(s) {
		if s[i] == '0' && p%2 == 1 || s[i] == '1' && p%2 == 0 {
			return false
		}
		p /= 2
	}
	return true
}

// points are those of a text.
func points(s string) api.Set {
	var all api.Set
	for p := range int(math.Pow(2, float64(len(s)))) {
		if contains(s, p) {
			all = set.With(all, p)
		}
	}
	return all
}

// holds, meet and join say of two texts of the same length what the calls say of their cubes.
func holds(a, b string) bool {
	return join(a, b) == a
}

func meet(a, b string) (string, bool) {
	var m strings.Builder
	for i := range len(a) {
		switch {
		case a[i] == '-':
			m.WriteByte(b[i])
		case b[i] == '-' || b[i] == a[i]:
			m.WriteByte(a[i])
		default:
			return "", false
		}
	}
	return m.String(), true
}

func join(a, b string) string {
	var j strings.Builder
	for i := range len(a) {
		if a[i] == b[i] {
			j.WriteByte(a[i])
		} else {
			j.WriteByte('-')
		}
	}
	return j.String()
}

func without(s string, i int) string {
	if i < 0 || i >= len(s) {
		return s
	}
	return s[:i] + "-" + s[i+1:]
}

// noCount are numbers that are no numbers of inputs, noInput those that are no inputs.
var (
	noCount = []int{-1, -2, -8, 9, 10, 16, 64, 255, 256, 257, math.MaxInt32, math.MinInt32, math.MaxInt, math.MinInt}
	noInput = append([]int{8}, noCount...)
)

// TestRight is about P2.1: all cubes there are, for each number of inputs.
func TestRight(t *testing.T) {
	valid := map[api.Cube]int{} // how many inputs there are at least
	for n := 8; n >= 0; n-- {
		for _, s := range texts(n) {
			valid[of(s)] = n
		}
	}
	for mask := range 256 {
		for val := range 256 {
			c := api.Cube{Mask: uint8(mask), Val: uint8(val)}
			least, ok := valid[c]
			for n := range 9 {
				if got := cube.Right(c, n); got != (ok && n >= least) {
					t.Fatalf("Right(%+v, %d) = %v", c, n, got)
				}
			}
		}
	}
	for _, n := range noCount {
		for _, c := range []api.Cube{{}, {Mask: 1}, {Mask: 255, Val: 255}, {Val: 1}} {
			if cube.Right(c, n) {
				t.Errorf("Right(%+v, %d)", c, n)
			}
		}
	}
}

// TestPointsAndText is about P2.1: the cubes of all texts.
func TestPointsAndText(t *testing.T) {
	for n := range 9 {
		for _, s := range texts(n) {
			c := of(s)
			if got, e := cube.Points(c, n); e != api.OK || got != points(s) {
				t.Fatalf("Points(%+v, %d) = %v, %d", c, n, got, e)
			}
			if got, e := cube.Text(c, n); e != api.OK || got != s {
				t.Fatalf("Text(%+v, %d) = %q, %d", c, n, got, e)
			}
		}
	}
}

// TestPointsAndTextOfNoCube is about P2.1: each way not to be valid, and nothing beside the error.
func TestPointsAndTextOfNoCube(t *testing.T) {
	refused := func(c api.Cube, n int) {
		t.Helper()
		if got, e := cube.Points(c, n); e != api.ErrArg || got != (api.Set{}) {
			t.Errorf("Points(%+v, %d) = %v, %d", c, n, got, e)
		}
		if got, e := cube.Text(c, n); e != api.ErrArg || got != "" {
			t.Errorf("Text(%+v, %d) = %q, %d", c, n, got, e)
		}
	}
	for _, n := range noCount {
		refused(api.Cube{}, n)
		refused(api.Cube{Mask: 1, Val: 1}, n)
		refused(api.Cube{Mask: 255}, n)
	}
	for n := range 8 {
		for i := n; i < 8; i++ {
			bit := uint8(math.Pow(2, float64(i)))
			refused(api.Cube{Mask: bit}, n)
			refused(api.Cube{Mask: bit, Val: bit}, n)
		}
	}
	for n := range 9 {
		for i := range 8 {
			bit := uint8(math.Pow(2, float64(i)))
			refused(api.Cube{Val: bit}, n)
			refused(api.Cube{Mask: 255 - bit, Val: bit}, n)
		}
	}
}

// TestParse is about P2.1: all texts up to eight bytes.
func TestParse(t *testing.T) {
	for n := range 9 {
		for _, s := range texts(n) {
			if c, e := cube.Parse(s); e != api.OK || c != of(s) {
				t.Fatalf("Parse(%q) = %+v, %d", s, c, e)
			}
		}
	}
}

// refusedTexts are too long, or have a byte that is no literal, at each place and of each value.
func refusedTexts() []string {
	l := []string{
		"---------", "000000000", "1111111111", "1-0 ", " 1-0", "1-0\n", "1-0\x00",
		// More than one byte a character, also those whose low byte is that of a literal.
		"é", "1é0", "--\u0130", "\u0131", "\u0430", "\u012d", "１", "−", "–", "\ufffd", "🂱", "1-0\xff", "\xc3", "1-\xe2\x82",
		strings.Repeat("1", 9), strings.Repeat("-", 9000), "--------" + "\xff", "éééé", "ééééé",
	}
	for b := range 256 {
		if b == '0' || b == '1' || b == '-' {
			continue
		}
		bad := string([]byte{byte(b)})
		for i := range 8 {
			l = append(l, strings.Repeat("-", i)+bad+strings.Repeat("1", 7-i), strings.Repeat("0", i)+bad)
		}
	}
	return l
}

// TestParseRefuses is about P2.1.
func TestParseRefuses(t *testing.T) {
	for _, s := range refusedTexts() {
		if c, e := cube.Parse(s); e != api.ErrForm || c != (api.Cube{}) {
			t.Errorf("Parse(%q) = %+v, %d", s, c, e)
		}
	}
}

// pairs calls what is tested for all pairs of four inputs, and for pairs of eight.
func pairs(test func(a, b string)) {
	for _, l := range [][]string{texts(4), someTexts()} {
		for _, a := range l {
			for _, b := range l {
				test(a, b)
			}
		}
	}
}

// TestPairs is about P2.2: Holds, Meet and Join, also with bits of Val that Mask does not have.
func TestPairs(t *testing.T) {
	pairs(func(a, b string) {
		m, met := meet(a, b)
		if !met {
			m = ""
		}
		for _, x := range untidy(a) {
			for _, y := range untidy(b) {
				if got := cube.Holds(x, y); got != holds(a, b) {
					t.Fatalf("Holds(%+v, %+v) = %v", x, y, got)
				}
				if got, ok := cube.Meet(x, y); ok != met || got != of(m) {
					t.Fatalf("Meet(%+v, %+v) = %+v, %v", x, y, got, ok)
				}
				if got := cube.Join(x, y); got != of(join(a, b)) {
					t.Fatalf("Join(%+v, %+v) = %+v", x, y, got)
				}
			}
		}
	})
}

// TestOneCube is about P2.2: Without and Size, also with bits of Val that Mask does not have.
func TestOneCube(t *testing.T) {
	for _, s := range texts(8) {
		for _, c := range untidy(s) {
			for i := range 8 {
				if got := cube.Without(c, i); got != of(without(s, i)) {
					t.Fatalf("Without(%+v, %d) = %+v", c, i, got)
				}
			}
			for _, i := range noInput {
				if got := cube.Without(c, i); got != of(s) {
					t.Fatalf("Without(%+v, %d) = %+v", c, i, got)
				}
			}
			if got := cube.Size(c); got != 8-strings.Count(s, "-") {
				t.Fatalf("Size(%+v) = %d", c, got)
			}
		}
	}
}

// TestPointsOfOne is about P2.3: how many points a cube has.
func TestPointsOfOne(t *testing.T) {
	for n := range 9 {
		for _, s := range texts(n) {
			c := of(s)
			got, e := cube.Points(c, n)
			if want := math.Pow(2, float64(n-cube.Size(c))); e != api.OK || float64(set.Count(got)) != want {
				t.Fatalf("Points(%+v, %d) has %d points, error %d", c, n, set.Count(got), e)
			}
		}
	}
}

// TestPointsOfTwo is about P2.3: Holds and Meet mean what the points say.
func TestPointsOfTwo(t *testing.T) {
	pairs(func(a, b string) {
		x, y := of(a), of(b)
		px, _ := cube.Points(x, len(a))
		py, _ := cube.Points(y, len(b))
		if got := cube.Holds(x, y); got != set.Within(py, px) {
			t.Fatalf("Holds(%q, %q) = %v", a, b, got)
		}
		m, ok := cube.Meet(x, y)
		both := set.And(px, py)
		if ok != (both != api.Set{}) {
			t.Fatalf("Meet(%q, %q): %v", a, b, ok)
		}
		if pm, e := cube.Points(m, len(a)); ok && (e != api.OK || pm != both) {
			t.Fatalf("Meet(%q, %q) has the points %v, error %d", a, b, pm, e)
		}
	})
}

// TestJoinIsLeast is about P2.3: Join contains both, and is contained in whatever does.
func TestJoinIsLeast(t *testing.T) {
	all := texts(3)
	for _, a := range all {
		for _, b := range all {
			j := cube.Join(of(a), of(b))
			if !cube.Holds(j, of(a)) || !cube.Holds(j, of(b)) {
				t.Fatalf("Join(%q, %q) = %+v does not contain both", a, b, j)
			}
			for _, c := range all {
				if cube.Holds(of(c), of(a)) && cube.Holds(of(c), of(b)) && !cube.Holds(of(c), j) {
					t.Fatalf("Join(%q, %q) = %+v is not within %q", a, b, j, c)
				}
			}
		}
	}
}

// TestThereAndBack is about P2.4.
func TestThereAndBack(t *testing.T) {
	for n := range 9 {
		for mask := range 256 {
			for val := range 256 {
				c := api.Cube{Mask: uint8(mask), Val: uint8(val)}
				if !cube.Right(c, n) {
					continue
				}
				s, _ := cube.Text(c, n)
				if got, e := cube.Parse(s); e != api.OK || got != c {
					t.Fatalf("Parse(Text(%+v, %d)) = %+v, %d", c, n, got, e)
				}
			}
		}
		for _, s := range texts(n) {
			c, _ := cube.Parse(s)
			if got, e := cube.Text(c, n); e != api.OK || got != s {
				t.Fatalf("Text(Parse(%q)) = %q, %d", s, got, e)
			}
		}
	}
}

// TestExample is the chapter's: 1-0, and the join of 10 and 11.
func TestExample(t *testing.T) {
	c, e := cube.Parse("1-0")
	if e != api.OK || c != (api.Cube{Mask: 5, Val: 1}) {
		t.Errorf("Parse = %+v, %d", c, e)
	}
	if p, e := cube.Points(c, 3); e != api.OK || p != set.With(set.With(api.Set{}, 1), 3) {
		t.Errorf("Points = %v, %d", p, e)
	}
	a, _ := cube.Parse("10")
	b, _ := cube.Parse("11")
	if s, e := cube.Text(cube.Join(a, b), 2); e != api.OK || s != "1-" {
		t.Errorf("Join = %q, %d", s, e)
	}
}

// TestNoPanic is about P0 (R1, R4): all cubes there are, with numbers that are no inputs, twice with the same results.
func TestNoPanic(t *testing.T) {
	type answer struct {
		right   bool
		points  api.Set
		text    string
		e, f    api.Errno
		without api.Cube
	}
	ask := func(c api.Cube, n int) answer {
		var a answer
		a.right = cube.Right(c, n)
		a.points, a.e = cube.Points(c, n)
		a.text, a.f = cube.Text(c, n)
		a.without = cube.Without(c, n)
		return a
	}
	for mask := range 256 {
		for val := range 256 {
			c := api.Cube{Mask: uint8(mask), Val: uint8(val)}
			for _, n := range []int{math.MinInt, -1, 0, 5, 8, 9, math.MaxInt} {
				if first, second := ask(c, n), ask(c, n); first != second {
					t.Fatalf("%+v, %d: %+v, then %+v", c, n, first, second)
				}
			}
		}
	}
}
