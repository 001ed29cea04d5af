package pla_test

import (
	"fmt"
	"reflect"
	"regexp"
	"slices"
	"strings"
	"testing"

	"drawknife/api"
	"drawknife/pla"
)

// shorter are the texts of a form with and without .type, where it may be missing, and .p.
func shorter(f form) []string {
	lines := f.lines()
	l := []string{f.text(), joined(slices.Concat(lines[:3], lines[4:]))}
	if f.kind == "fd" {
		l = append(l, joined(slices.Concat(lines[:2], lines[3:])), joined(slices.Concat(lines[:2], lines[4:])))
	}
	return l
}

func joined(lines []string) string {
	var s strings.Builder
	for _, l := range lines {
		s.WriteString(l + "\n")
	}
	return s.String()
}

// parsed tests that s is the text of want.
func parsed(t *testing.T, s string, want api.Table) {
	t.Helper()
	if x, at, e := pla.Parse(s); e != api.OK || at != 0 || !pla.Same(x, want) {
		t.Errorf("Parse(%.200q) = %+v, %d, %d", s, x, at, e)
	}
}

// refused tests the line and the error for s, and that there is nothing beside them.
func refused(t *testing.T, s string, at int, e api.Errno) {
	t.Helper()
	if x, gotAt, got := pla.Parse(s); gotAt != at || got != e || !reflect.DeepEqual(x, api.Table{}) {
		t.Errorf("Parse(%.200q) = %+v, %d, %d, not %d, %d", s, x, gotAt, got, at, e)
	}
}

// TestParse is about P3.2: tables of all sizes, also without .type and without .p.
func TestParse(t *testing.T) {
	for _, f := range forms() {
		for _, s := range shorter(f) {
			parsed(t, s, f.table())
		}
	}
}

// TestKindMissing is about P3.2: a text without .type is fd, whatever its lines are.
func TestKindMissing(t *testing.T) {
	f := form{2, 2, "fd", []string{"11 0-", "00 11"}}
	parsed(t, ".i 2\n.o 2\n11 0-\n00 11\n.e\n", f.table())
	parsed(t, ".i 2\n.o 2\n.p 2\n11 0-\n00 11\n.e\n", f.table())
	parsed(t, ".i 0\n.o 1\n.e\n", api.Table{Kind: api.FD, Out: 1})
}

// TestCut is about P3.2: what there is of a text that ends too early, at each byte.
func TestCut(t *testing.T) {
	for _, f := range chosen() {
		for _, s := range append(shorter(f), "# a\n\n"+f.text()) {
			for k := range len(s) {
				whole := s[:k] == "" || s[k-1] == '\n'
				if at := strings.Count(s[:k], "\n"); whole {
					refused(t, s[:k], at, api.ErrNone)
				} else {
					refused(t, s[:k], at, api.ErrForm)
				}
			}
		}
	}
}

// TestNoEnd is about P3.2: without .e, the number is that of all lines, also of those that are skipped.
func TestNoEnd(t *testing.T) {
	for s, at := range map[string]int{"": 0, "\n": 1, "#\n": 1, "\n#\n\n": 3, ".i 1\n": 1, ".i 1\n\n#\n": 3, ".i 1\n.o 1\n.p 1\n": 3, ".i 1\n.o 1\n.p 0\n1 1\n": 4, ".i 1\n.o 1\n1 1\n#.e\n": 4} {
		refused(t, s, at, api.ErrNone)
	}
}

// nowhere are lines that are not permitted at any place of a table with two inputs and one output.
var nowhere = []string{
	" ", "\t", "\r", "\x00", " #", "\t#", ".", ".i", ".o", ".type", ".p", ".i ", ".o ", ".type ", ".p ", "i 1", " .i 1",
	".i 1 ", ".i  1", ".i\t1", ".i 1\r", ".i1", ".i 01", ".i 00", ".i +1", ".i -1", ".i -0", ".i 1.0", ".i 1e0", ".i 0x1", ".i 1_", ".i x", ".i １", ".i 9", ".i 10", ".i 256", ".i 18446744073709551616", ".i 18446744073709551617",
	".o 1 ", ".o  1", ".o1", ".o 01", ".o 0", ".o 00", ".o -1", ".o 5", ".o 10", ".o 4294967297", ".o 18446744073709551617", ".o \xff", ".O 1", ".I 1",
	".type  fd", ".type fd ", ".type df", ".type r", ".type d", ".type dr", ".type F", ".type FD", ".type fdrr", ".type 1", ".typefd", ".types fd", ".Type fd",
	".p 65", ".p 064", ".p 00", ".p -1", ".p 100", ".p 1 ", ".p  1", ".p1", ".p 18446744073709551616", ".p one", ".p 1\t",
	".e ", " .e", ".end", ".E", ".e\r", ".e 1", "e", ".ilb a b", ".ob y", ".phase 1",
	"1-1", "1-  1", " 1- 1", "1- 1 ", "1-\t1", "1- 2", "12 1", "2- 1", "1-1 1", "1 1", "1- 11", "1- ", "1-", "1- 1\r", "1-|1", "1- x", "~- 1", "1- ~", "1- \xff", "\xff- 1", "é 1", "1-é", "1- 1#", "-1 ", "−1 1", "1 -1",
}

// TestNowhere is about P3.2: wrong lines in place of each line, before each, and after all.
func TestNowhere(t *testing.T) {
	f := form{2, 1, "fdr", []string{"1- 1", "0- -", "-1 0"}}
	lines := f.lines()
	for _, bad := range nowhere {
		for k := range lines {
			refused(t, joined(slices.Concat(lines[:k], []string{bad}, lines[k+1:])), k, api.ErrForm)
			refused(t, joined(slices.Concat(lines[:k], []string{bad}, lines[k:])), k, api.ErrForm)
		}
		refused(t, joined(append(slices.Clone(lines), bad)), len(lines), api.ErrForm)
		refused(t, joined(append(slices.Clone(lines), "", "#", bad)), len(lines)+2, api.ErrForm)
	}
}

// TestOrder is about P3.2: right lines at places where they are not permitted.
func TestOrder(t *testing.T) {
	for s, at := range map[string]int{
		".o 1\n.i 1\n.e\n":                          0,
		".type fd\n.i 1\n.o 1\n.e\n":                0,
		".p 0\n.i 1\n.o 1\n.e\n":                    0,
		".e\n":                                      0,
		"1 1\n":                                     0,
		" 1\n":                                      0,
		".i 1\n.i 1\n.o 1\n.e\n":                    1,
		".i 1\n.type fd\n.o 1\n.e\n":                1,
		".i 1\n.p 0\n.o 1\n.e\n":                    1,
		".i 1\n.e\n":                                1,
		".i 1\n1 1\n":                               1,
		".i 1\n.o 1\n.o 1\n.e\n":                    2,
		".i 1\n.o 1\n.i 1\n.e\n":                    2,
		".i 1\n.o 1\n.type f\n.type f\n.e\n":        3,
		".i 1\n.o 1\n.type f\n.o 1\n.e\n":           3,
		".i 1\n.o 1\n.p 0\n.type f\n.e\n":           3,
		".i 1\n.o 1\n.p 0\n.p 0\n.e\n":              3,
		".i 1\n.o 1\n.type f\n.p 0\n.p 0\n.e\n":     4,
		".i 1\n.o 1\n1 1\n.type f\n.e\n":            3,
		".i 1\n.o 1\n1 1\n.p 1\n.e\n":               3,
		".i 1\n.o 1\n1 1\n.i 1\n.e\n":               3,
		".i 1\n.o 1\n1 1\n.o 1\n.e\n":               3,
		".i 5\n.o 1\n.p 1\n.type f\n.e\n":           3,
		".i 2\n.o 1\n1- 1\n.p 1\n.e\n":              3,
		".i 1\n.o 1\n1 1\n.e\n1 1\n":                4,
		".i 1\n.o 1\n1 1\n.e\n.e\n":                 4,
		".i 1\n.o 1\n1 1\n.e\n\n#\n.i 1\n":          6,
		".i 1\n.o 1\n.e\n.type fd\n":                3,
		".i 1\n.o 1\n.e\n.p 0\n":                    3,
		".i 1\n.o 1\n.e\n.o 1\n":                    3,
		".i 0\n.o 1\n1\n.e\n":                       2,
		".i 0\n.o 1\n- 1\n.e\n":                     2,
		".i 8\n.o 4\n-------- 111\n.e\n":            2,
		".i 8\n.o 4\n-------- 11111\n.e\n":          2,
		".i 8\n.o 4\n--------- 1111\n.e\n":          2,
		".i 1\n.o 1\n#\n1 1\n\n2 1\n.e\n":           5,
		".i 1\n.o 1\n1 1\n.e\n#\n# not ended":       5,
		".i 1\n.o 1\n1 1\n.e\nx":                    4,
		".i 1\n.o 1\n1 1\n.e\n#":                    4,
		"#":                                         0,
		"\n#":                                       1,
		".i 1\r\n.o 1\r\n1 1\r\n.e\r\n":             0,
		".i 1\n.o 1\n.p 0\n.e\n\n.e":                5,
		".i 1\n.o 1\n.type fd\n.p 1\n1 1\n.e\n\x00": 6,
	} {
		refused(t, s, at, api.ErrForm)
	}
}

// TestNumbers is about P3.2: each number that may follow .i, .o and .p, and no other.
func TestNumbers(t *testing.T) {
	for n := range 300 {
		s := fmt.Sprintf(".i %d\n.o 1\n.e\n", n)
		if n <= 8 {
			parsed(t, s, api.Table{Kind: api.FD, In: n, Out: 1})
		} else {
			refused(t, s, 0, api.ErrForm)
		}
		s = fmt.Sprintf(".i 1\n.o %d\n.e\n", n)
		if n >= 1 && n <= 4 {
			parsed(t, s, api.Table{Kind: api.FD, In: 1, Out: n})
		} else {
			refused(t, s, 1, api.ErrForm)
		}
		f := form{1, 1, "fd", slices.Repeat([]string{"1 1"}, min(n, 64))}
		s = fmt.Sprintf(".i 1\n.o 1\n.p %d\n%s.e\n", n, joined(f.rows))
		if n <= 64 {
			parsed(t, s, f.table())
		} else {
			refused(t, s, 2, api.ErrForm)
		}
	}
}

// TestCounts is about P3.2: the line at fault is .e, if .p said more or fewer lines than there are.
func TestCounts(t *testing.T) {
	for said := range 65 {
		for _, n := range []int{0, 1, 2, said - 1, said, said + 1, 63, 64} {
			if n < 0 || n > 64 {
				continue
			}
			f := form{1, 1, "fd", slices.Repeat([]string{"- 1"}, n)}
			s := fmt.Sprintf(".i 1\n.o 1\n.p %d\n%s.e\n", said, joined(f.rows))
			if n == said {
				parsed(t, s, f.table())
			} else {
				refused(t, s, 3+n, api.ErrForm)
			}
		}
	}
}

// TestFull is about P3.2: 64 lines, one more, and what else may be wrong with that one.
func TestFull(t *testing.T) {
	head := ".i 1\n.o 1\n"
	f := form{1, 1, "fd", slices.Repeat([]string{"1 1"}, 64)}
	most := joined(f.rows)
	parsed(t, head+most+".e\n", f.table())
	parsed(t, head+".p 64\n"+most+".e\n", f.table())
	parsed(t, head+most+"\n#\n.e\n\n", f.table())
	refused(t, head+most+"1 1\n", 66, api.ErrFull)
	refused(t, head+most+"1 1\n.e\n", 66, api.ErrFull)
	refused(t, head+most+"1 1\n0 0\n", 66, api.ErrFull)
	refused(t, head+most+"1 1\nx\n", 66, api.ErrFull)
	refused(t, head+".p 64\n"+most+"1 1\n.e\n", 67, api.ErrFull)
	refused(t, head+".p 3\n"+most+"1 1\n.e\n", 67, api.ErrFull)
	refused(t, head+most+"\n#\n1 1\n.e\n", 68, api.ErrFull)
	refused(t, head+most+"1 2\n.e\n", 66, api.ErrForm)
	refused(t, head+most+"1 11\n.e\n", 66, api.ErrForm)
	refused(t, head+most+"1 1", 66, api.ErrForm)
	refused(t, head+most+".p 64\n", 66, api.ErrForm)
	refused(t, head+most, 66, api.ErrNone)
}

// TestMaxText is about P3.2: texts of as many bytes as there may be, and of one more.
func TestMaxText(t *testing.T) {
	f := form{2, 1, "f", []string{"1- 1"}}
	s := f.text()
	for _, extra := range []int{0, 1} {
		rest := 8000 + extra - len(s)
		for _, text := range []string{
			"#" + strings.Repeat("x", rest-2) + "\n" + s,
			s + "#" + strings.Repeat("é", (rest-2)/2) + strings.Repeat("-", rest%2) + "\n",
			strings.Repeat("\n", rest) + s,
			s + strings.Repeat("\n", rest),
		} {
			if len(text) != 8000+extra {
				t.Fatalf("a text of %d bytes", len(text))
			}
			if extra == 0 {
				parsed(t, text, f.table())
			} else {
				refused(t, text, 0, api.ErrFull)
			}
		}
	}
	refused(t, strings.Repeat("\n", 8000), 8000, api.ErrNone)
	refused(t, strings.Repeat("x", 8000), 0, api.ErrForm)
	refused(t, "\n"+strings.Repeat("x", 7999), 1, api.ErrForm)
	refused(t, strings.Repeat("x", 8001), 0, api.ErrFull)
	refused(t, "\n"+strings.Repeat("x", 8000), 0, api.ErrFull)
	refused(t, strings.Repeat("\n", 8001), 0, api.ErrFull)
	refused(t, strings.Repeat("1 1\n", 100000), 0, api.ErrFull)
}

// skippedLines are lines that make no difference.
var skippedLines = [][]string{{""}, {"#"}, {"# .e"}, {"#\x00\xff é\r"}, {"##"}, {"#.i 3", "", "#"}, {"", "", ""}}

// TestSkipped is about P3.4: lines that are skipped, at each place of right texts, and at all at once.
func TestSkipped(t *testing.T) {
	for _, f := range chosen() {
		lines := f.lines()
		for _, more := range skippedLines {
			all := slices.Clone(more)
			for k := range len(lines) + 1 {
				parsed(t, joined(slices.Insert(slices.Clone(lines), k, more...)), f.table())
			}
			for _, l := range lines {
				all = append(append(all, l), more...)
			}
			parsed(t, joined(all), f.table())
		}
	}
}

// TestSkippedBeforeFault is about P3.4: they change the line at fault by as many as come before it.
func TestSkippedBeforeFault(t *testing.T) {
	full := append([]string{".i 1", ".o 1"}, slices.Repeat([]string{"1 1"}, 66)...)
	for _, lines := range [][]string{
		{}, {".i 9"}, {".i 1", ".o 0"}, {".i 1", ".o 1", ".type x"}, {".i 1", ".o 1", ".p 2", "1 1", ".e"}, {".i 1", ".o 1", ".p 0", "1 1", ".e"},
		{".i 1", ".o 1", "1 1", ".p 1"}, {".i 1", ".o 1", ".e", ".e"}, {".i 1", ".o 1", "1 1"}, {".i 1", ".o 1", "1 1", "2 1", ".e"}, full,
	} {
		_, at, e := pla.Parse(joined(lines))
		if e == api.OK {
			t.Fatalf("Parse(%q) has no error", lines)
		}
		for _, more := range skippedLines {
			for k := range len(lines) + 1 {
				want := at
				// Without .e, the number is that of all lines, so that it counts those at the end as well.
				if k <= at {
					want += len(more)
				}
				refused(t, joined(slices.Insert(slices.Clone(lines), k, more...)), want, e)
			}
		}
	}
}

// reading says by patterns what Parse is to return: the lines of a right text match, one after the other, those of what may come next.
func reading(s string) (int, api.Errno) {
	if len(s) > 8000 {
		return 0, api.ErrFull
	}
	state, in, out, said, n := "i", 0, 0, -1, 0
	lines := strings.SplitAfter(s, "\n")
	if lines[len(lines)-1] == "" {
		lines = lines[:len(lines)-1]
	}
	match := func(pattern, l string) bool { return regexp.MustCompile(`\A` + pattern + `\n\z`).MatchString(l) }
	for k, l := range lines {
		may := func(states string) bool { return strings.Contains(states, state) }
		switch {
		case match(`(#[^\n]*)?`, l):
		case may("i") && match(`\.i [0-8]`, l):
			state, in = "o", int(l[3]-'0')
		case may("o") && match(`\.o [1-4]`, l):
			state, out = "t", int(l[3]-'0')
		case may("t") && match(`\.type (f|fd|fr|fdr)`, l):
			state = "p"
		case may("tp") && match(`\.p ([0-9]|[1-5][0-9]|6[0-4])`, l):
			fmt.Sscanf(l, ".p %d", &said)
			state = "r"
		case may("tpr") && match(fmt.Sprintf(`[01-]{%d} [01-]{%d}`, in, out), l):
			if n++; n > 64 {
				return k, api.ErrFull
			}
			state = "r"
		case may("tpr") && match(`\.e`, l) && (said < 0 || said == n):
			state = "-"
		default:
			return k, api.ErrForm
		}
	}
	if state != "-" {
		return len(lines), api.ErrNone
	}
	return 0, api.OK
}

// checked tests Parse of any text by what the patterns say, and for P0 (R1, R2, R4): nothing beside an error, the same twice.
func checked(t *testing.T, s string) {
	t.Helper()
	x, at, e := pla.Parse(s)
	y, atAgain, again := pla.Parse(s)
	if !reflect.DeepEqual(x, y) || at != atAgain || e != again {
		t.Fatalf("Parse(%q) is not the same twice", s)
	}
	if wantAt, want := reading(s); at != wantAt || e != want {
		t.Fatalf("Parse(%q) = %d, %d, not %d, %d", s, at, e, wantAt, want)
	}
	if e != api.OK && !reflect.DeepEqual(x, api.Table{}) {
		t.Fatalf("Parse(%q) = %+v beside an error", s, x)
	}
	if e == api.OK && !pla.Right(x) {
		t.Fatalf("Parse(%q) = %+v, which is not valid", s, x)
	}
}

// TestOneByte is about P3.2 and P0: each byte of texts replaced by others, left out, or doubled.
func TestOneByte(t *testing.T) {
	for _, f := range chosen() {
		s := f.text()
		for k := range len(s) {
			for _, b := range []byte("012589-. \n#ioptypedfr\x00\r\t~\xff\xc3") {
				checked(t, s[:k]+string([]byte{b})+s[k+1:])
				checked(t, s[:k]+string([]byte{b})+s[k:])
			}
			checked(t, s[:k]+s[k+1:])
			checked(t, s[:k]+"é"+s[k+1:])
			checked(t, s[:k]+s[k:k+1]+s[k:])
		}
	}
}

// TestMixedLines is about P3.2 and P0: right lines and wrong ones in any order.
func TestMixedLines(t *testing.T) {
	pool := []string{".i 1", ".i 0", ".o 1", ".o 2", ".type f", ".type fdr", ".p 0", ".p 1", ".p 2", "1 1", "- 0", " 1", "0 1-", ".e", "", "#", "x"}
	x := uint32(7)
	next := func(n int) int {
		x = x*1664525 + 1013904223
		return int(x>>16) % n
	}
	for range 20000 {
		lines := [][]string{{}, {".i 1"}, {".i 1", ".o 1"}, {".i 0", ".o 1"}, {".i 1", ".o 2", ".p 1"}}[next(5)]
		for range next(7) {
			lines = append(lines[:len(lines):len(lines)], pool[next(len(pool))])
		}
		checked(t, joined(lines))
		checked(t, strings.TrimSuffix(joined(lines), "\n"))
	}
}

// TestExample is the chapter's: the first input.
func TestExample(t *testing.T) {
	want := api.Table{Kind: api.FD, In: 2, Out: 1, Lines: []api.Line{{Cube: api.Cube{Mask: 1, Val: 1}, Outs: []int{1}}}}
	s := ".i 2\n.o 1\n.type fd\n.p 1\n1- 1\n.e\n"
	parsed(t, s, want)
	if u, e := pla.Print(want); e != api.OK || u != s {
		t.Errorf("Print = %q, %d", u, e)
	}
}
