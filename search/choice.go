package search

import (
	"slices"

	"drawknife/cover"
	"drawknife/reduce"
)

// A choice is what is left to solve when some columns have been taken, and others are not to be.
type choice struct {
	taken []int
	names []int // the numbers that the columns of rest had at first
	rest  cover.Matrix
}

// A state is how far a search has come: the best columns that it knows, the choices that may have better ones, and the number of steps that are left.
type state struct {
	best  []int
	stack []choice
	left  *int
}

// search returns the fewest columns that solve c. Each step takes one from left; if more are needed, left is below 0 afterwards, and what is returned may be too many.
func search(c choice, left *int) []int {
	s := &state{best: c.called(counted(c.rest.Cols)), left: left}
	s.add(c)
searching:
	for {
		switch {
		case len(s.stack) == 0:
			break searching
		case *left <= 0:
			*left = -1
			break searching
		}
		*left--
		top := s.stack[len(s.stack)-1]
		s.stack = s.stack[:len(s.stack)-1]
		s.step(top)
	}
	return s.best
}

// add reduces c, and puts it on the stack if anything is left.
func (s *state) add(c choice) {
	c = c.reduced()
	if hopeless(c.rest) {
		return
	}
	s.keep(c.called(greedy(c.rest)))
	if len(c.rest.Rows) > 0 {
		s.stack = append(s.stack, c)
	}
}

// keep keeps columns that solve all if they are the best ones till now.
func (s *state) keep(l []int) {
	if len(l) < len(s.best) {
		s.best = l
	}
}

// step adds what may have better columns than the best: two choices, or one, or each part by itself. All have fewer columns, so that a choice of n columns takes fewer than 2^(n+1) steps.
func (s *state) step(c choice) {
	most := (len(s.best) - len(c.taken) - 1) * unit
	b := priced(c.rest, most)
	if b.least > most {
		return
	}
	dear := func(x int) bool { return b.least+b.unpaid[x] > most }
	if slices.ContainsFunc(counted(c.rest.Cols), dear) {
		s.add(c.without(dear))
		return
	}
	if all := parts(c.rest); len(all) > 1 {
		s.keep(c.together(all, s.left))
		return
	}
	cheapest := slices.Index(b.unpaid, slices.Min(b.unpaid))
	s.add(c.without(func(x int) bool { return x == cheapest }))
	s.add(c.with(cheapest))
}

// together returns the fewest columns that solve c, whose rest falls into parts.
func (c choice) together(all []cover.Matrix, left *int) []int {
	best := c.taken
	for _, part := range all {
		best = slices.Concat(best, search(choice{names: c.names, rest: part}, left))
	}
	return best
}

// parts returns the parts of m, which have no columns in common. To search one after another takes the sum of their steps, all together the product.
func parts(m cover.Matrix) []cover.Matrix {
	leads := counted(m.Cols)
	lead := func(c int) int {
		for leads[c] != c {
			leads[c] = leads[leads[c]]
			c = leads[c]
		}
		return c
	}
	for _, row := range m.Rows {
		for _, c := range row {
			leads[lead(c)] = lead(row[0])
		}
	}
	var all []cover.Matrix
	places := map[int]int{}
	for _, row := range m.Rows {
		k, ok := places[lead(row[0])]
		if !ok {
			k = len(all)
			places[lead(row[0])] = k
			all = append(all, cover.Matrix{Cols: m.Cols})
		}
		all[k].Rows = append(all[k].Rows, row)
	}
	return all
}

// reduced returns the choice after all reductions. Its columns are numbered anew, without those that are in no row, since each step goes through all of them.
func (c choice) reduced() choice {
	taken, rest, _ := reduce.Reduce(c.rest)
	next := choice{taken: c.called(taken)}
	places := make([]int, rest.Cols)
	for x, many := range counts(rest) {
		if many > 0 {
			places[x] = len(next.names)
			next.names = append(next.names, c.names[x])
		}
	}
	next.rest.Cols = len(next.names)
	for _, row := range rest.Rows {
		next.rest.Rows = append(next.rest.Rows, at(places, row))
	}
	return next
}

// called returns the columns that were taken, and some of rest, by the numbers that they had at first.
func (c choice) called(cols []int) []int {
	return slices.Concat(c.taken, at(c.names, cols))
}

// without returns the choice without some columns.
func (c choice) without(out func(x int) bool) choice {
	m := cover.Matrix{Cols: c.rest.Cols}
	for _, row := range c.rest.Rows {
		m.Rows = append(m.Rows, slices.DeleteFunc(slices.Clone(row), out))
	}
	return choice{c.taken, c.names, m}
}

// with returns the choice with a row more, so that a column must be taken.
func (c choice) with(x int) choice {
	m := cover.Matrix{Cols: c.rest.Cols, Rows: slices.Concat(c.rest.Rows, [][]int{{x}})}
	return choice{c.taken, c.names, m}
}

// at returns the numbers at some places.
func at(l, places []int) []int {
	var some []int
	for _, k := range places {
		some = append(some, l[k])
	}
	return some
}
