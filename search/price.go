package search

import (
	"slices"

	"drawknife/cover"
)

const (
	unit     = 1 << 20 // what a column costs
	whole    = 256     // the length of a move at first
	patience = 15      // after so many moves in vain the length is halved
	moves    = 300     // there are no more of them
	effort   = 300000  // and about so many columns of rows are looked at
)

// A bill tells what a covering costs by prices, which each row pays to each of its columns. Columns that solve it are paid all prices at least once: they cost at least the sum of these, and what each of them is not paid. (For a column that is paid more than it costs, that is below 0.)
type bill struct {
	least  int   // no columns that solve it cost less
	unpaid []int // what each column is not paid: columns that include it cost so much more than least
}

// priced looks for prices by which m costs as much as possible, until it costs more than most.
func priced(m cover.Matrix, most int) bill {
	prices := fair(m)
	best, now := bill{unpaid: make([]int, m.Cols)}, bill{unpaid: make([]int, m.Cols)}
	length, vain := whole, 0
	for range movesFor(m) {
		now.sum(m, prices)
		if now.least > best.least {
			best.least, vain = now.least, 0
			copy(best.unpaid, now.unpaid)
		} else if vain++; vain == patience {
			length, vain = length/2, 0
		}
		if best.least > most || !now.move(m, prices, (most+unit-now.least)*length/whole) {
			break
		}
	}
	return best
}

// movesFor returns how many moves there are: fewer for a great covering, so that a step does not take too long.
func movesFor(m cover.Matrix) int {
	size := 0
	for _, row := range m.Rows {
		size += len(row)
	}
	return min(moves, 5+effort/size)
}

// fair returns prices by which no column is paid more than it costs.
func fair(m cover.Matrix) []int {
	var prices []int
	many := counts(m)
	for _, row := range m.Rows {
		prices = append(prices, unit/slices.Max(at(many, row)))
	}
	return prices
}

// sum makes b the bill by some prices.
func (b *bill) sum(m cover.Matrix, prices []int) {
	for c := range b.unpaid {
		b.unpaid[c] = unit
	}
	b.least = 0
	for k, row := range m.Rows {
		b.least += prices[k]
		for _, c := range row {
			b.unpaid[c] -= prices[k]
		}
	}
	for _, d := range b.unpaid {
		b.least += min(0, d)
	}
}

// move changes prices so that the next bill may be greater: rows of which no column is paid too much pay more, those of which several are pay less; none pays more than a column costs, since it would gain nothing. It reports whether there was anything to change.
func (b *bill) move(m cover.Matrix, prices []int, by int) bool {
	want := make([]int, len(prices))
	total := 0
	for k, row := range m.Rows {
		want[k] = 1
		for _, c := range row {
			if b.unpaid[c] < 0 {
				want[k]--
			}
		}
		total += want[k] * want[k]
	}
	if total == 0 || by < total {
		return false
	}
	for k := range prices {
		prices[k] = min(max(0, prices[k]+by/total*want[k]), unit)
	}
	return true
}
