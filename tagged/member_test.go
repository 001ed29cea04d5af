package tagged_test

import (
	"math"
	"testing"

	"drawknife/api"
	"drawknife/tagged"
)

// returnsRow checks what Row returns.
func returnsRow(t *testing.T, m int, want api.Row, we api.Errno) {
	t.Helper()
	if x, e := tagged.Row(m); x != want || e != we {
		t.Fatalf("Row(%d) = %v, %d, not %v, %d", m, x, e, want, we)
	}
}

// TestMember is about P11.1: all cubes there are, with all outputs, and with bits of Outs that are none.
func TestMember(t *testing.T) {
	for _, text := range texts(8) {
		c := parse(t, text)
		for outs := range 256 {
			x := api.Row{Cube: c, Outs: uint8(outs)}
			if m := tagged.Member(x); m != member(text, outs%16) {
				t.Fatalf("Member(%v) = %d, not %d", x, m, member(text, outs%16))
			}
		}
	}
}

// TestMemberOfBits is about P11.1: bits of Val that Mask does not have, each alone and all, are ignored.
func TestMemberOfBits(t *testing.T) {
	for mask := range 256 {
		for val := range 256 {
			text := ""
			for i := range 8 {
				switch {
				case mask>>i%2 == 0:
					text += "-"
				case val>>i%2 == 0:
					text += "0"
				default:
					text += "1"
				}
			}
			for _, outs := range []int{0, 1, 8, 15, 16, 128, 240, 249, 255} {
				x := api.Row{Cube: api.Cube{Mask: uint8(mask), Val: uint8(val)}, Outs: uint8(outs)}
				if m := tagged.Member(x); m != member(text, outs%16) {
					t.Fatalf("Member(%v) = %d, not %d", x, m, member(text, outs%16))
				}
			}
		}
	}
}

// TestMemberOfTexts is about P11.1: members that are told by their items.
func TestMemberOfTexts(t *testing.T) {
	for _, c := range []struct {
		text  string
		outs  uint8
		items []int
	}{
		{"", 0, nil}, {"", 1, []int{16}}, {"", 15, []int{16, 17, 18, 19}}, {"", 8, []int{19}}, {"", 240, nil}, {"", 36, []int{18}},
		{"0", 0, []int{0}}, {"1", 0, []int{1}}, {"-0", 2, []int{2, 17}}, {"-1", 2, []int{3, 17}}, {"01", 1, []int{0, 3, 16}}, {"10", 1, []int{1, 2, 16}},
		{"-------0", 4, []int{14, 18}}, {"-------1", 4, []int{15, 18}}, {"0------1", 9, []int{0, 15, 16, 19}},
		{"00000000", 1, []int{0, 2, 4, 6, 8, 10, 12, 14, 16}}, {"11111111", 8, []int{1, 3, 5, 7, 9, 11, 13, 15, 19}},
	} {
		want := 0
		for _, item := range c.items {
			want += int(math.Pow(2, float64(item)))
		}
		if m := tagged.Member(api.Row{Cube: parse(t, c.text), Outs: c.outs}); m != want {
			t.Errorf("Member of %q for %d: %d, not %d", c.text, c.outs, m, want)
		}
	}
}

// TestRow is about P11.1: all members without an item from 20 on. Those that belong to a row are found by its text.
func TestRow(t *testing.T) {
	rows := map[int]api.Row{}
	for _, text := range texts(8) {
		c := parse(t, text)
		for outs := 1; outs < 16; outs++ {
			rows[member(text, outs)] = api.Row{Cube: c, Outs: uint8(outs)}
		}
	}
	for m := range 1 << 20 {
		if x, ok := rows[m]; ok {
			returnsRow(t, m, x, api.OK)
		} else {
			returnsRow(t, m, api.Row{}, api.ErrArg)
		}
	}
}

// TestRowsThatAreNone is about P11.1: numbers below 0, and members with one item from 20 on, or with more, beside those of a row.
func TestRowsThatAreNone(t *testing.T) {
	for _, text := range []string{"", "0", "1", "10", "-------1", "01-10-01", "00000000", "11111111"} {
		for outs := range 16 {
			m := member(text, outs)
			for bit := 20; bit < 63; bit++ {
				returnsRow(t, m+1<<bit, api.Row{}, api.ErrArg)
				returnsRow(t, m-1<<bit, api.Row{}, api.ErrArg)
			}
			for _, more := range []int{3 << 20, 5 << 21, 15 << 20, 1<<24 - 1<<20, 1<<32 + 1<<24, math.MaxInt - (1<<20 - 1), math.MinInt, math.MinInt32} {
				returnsRow(t, m+more, api.Row{}, api.ErrArg)
			}
			returnsRow(t, -m-1, api.Row{}, api.ErrArg)
		}
	}
	for m := range 1 << 12 {
		returnsRow(t, -1-m, api.Row{}, api.ErrArg)
		returnsRow(t, 1<<24-1-m, api.Row{}, api.ErrArg)
		returnsRow(t, 1<<20+m, api.Row{}, api.ErrArg)
	}
	for _, m := range []int{math.MinInt, math.MinInt + 1, math.MinInt32, math.MaxInt32, math.MaxInt, math.MaxInt - 1, math.MinInt + 1<<16, 1 << 20, 1 << 24, -1 << 20} {
		returnsRow(t, m, api.Row{}, api.ErrArg)
	}
}

// TestBothItems is about P11.1: a member that has both items of one input belongs to no row, whatever else it has.
func TestBothItems(t *testing.T) {
	for i := range 8 {
		for _, other := range []int{0, member("0-1-0-1-", 0), member("-1-0-1-0", 0)} {
			for outs := range 16 {
				both := 3 << (2 * i)
				returnsRow(t, other&^both+both+outs<<16, api.Row{}, api.ErrArg)
			}
		}
	}
}

// TestThereAndBack is about P11.3: the row of its member, and the member of its row.
func TestThereAndBack(t *testing.T) {
	for _, text := range texts(8) {
		for outs := 1; outs < 16; outs++ {
			x := api.Row{Cube: parse(t, text), Outs: uint8(outs)}
			returnsRow(t, tagged.Member(x), x, api.OK)
		}
	}
	rows := 0
	for m := range 1 << 20 {
		x, e := tagged.Row(m)
		if e != api.OK {
			continue
		}
		if rows++; tagged.Member(x) != m {
			t.Fatalf("Member(Row(%d)) = %d", m, tagged.Member(x))
		}
	}
	if rows != 6561*15 {
		t.Errorf("%d members belong to rows", rows)
	}
}

// TestBackOfBits is about P11.1 and P11.3: what Member ignores is not in the row either.
func TestBackOfBits(t *testing.T) {
	next := random(113)
	for range 100000 {
		x := api.Row{Cube: api.Cube{Mask: uint8(next(256)), Val: uint8(next(256))}, Outs: uint8(next(256))}
		y := api.Row{Cube: api.Cube{Mask: x.Cube.Mask, Val: x.Cube.Val & x.Cube.Mask}, Outs: x.Outs & 15}
		if y.Outs == 0 {
			returnsRow(t, tagged.Member(x), api.Row{}, api.ErrArg)
		} else {
			returnsRow(t, tagged.Member(x), y, api.OK)
		}
	}
}
