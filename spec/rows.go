package spec

import (
	"slices"

	"drawknife/api"
	"drawknife/cube"
	"drawknife/set"
)

// value returns what outs says of output o: 1 if it has its bit, otherwise 0.
func value(outs uint8, o int) int {
	return int(outs >> o & 1)
}

// cubesRight reports whether the cube of each row is one of so many inputs.
func cubesRight(l []api.Row, in int) bool {
	return !slices.ContainsFunc(l, func(x api.Row) bool { return !cube.Right(x.Cube, in) })
}

// outsRight reports whether the Outs of each row have a bit, and none that is no output.
func outsRight(l []api.Row, outputs int) bool {
	return !slices.ContainsFunc(l, func(x api.Row) bool { return x.Outs == 0 || x.Outs>>outputs != 0 })
}

// permitted reports whether s is valid, and all of l may be rows that cover it.
func permitted(s api.Spec, l []api.Row) bool {
	return Right(s) && cubesRight(l, s.In) && outsRight(l, len(s.On))
}

// Points returns the points of all rows whose Outs have bit out.
func Points(l []api.Row, in, out int) (api.Set, api.Errno) {
	if in < 0 || in > api.MaxIn || out < 0 || out >= api.MaxOut || !cubesRight(l, in) {
		return api.Set{}, api.ErrArg
	}
	var all api.Set
	for _, x := range l {
		if value(x.Outs, out) == zero {
			continue
		}
		points, e := cube.Points(x.Cube, in)
		if e != api.OK {
			return api.Set{}, e
		}
		all = set.Or(all, points)
	}
	return all, api.OK
}

// Covers reports whether the rows cover s.
func Covers(s api.Spec, l []api.Row) bool {
	if !permitted(s, l) {
		return false
	}
	for o, on := range s.On {
		points, e := Points(l, s.In, o)
		if e != api.OK || !set.Within(on, points) || !set.Within(points, s.May[o]) {
			return false
		}
	}
	return true
}

// Table returns the table of the rows, which need not cover s.
func Table(s api.Spec, l []api.Row) (api.Table, api.Errno) {
	if !permitted(s, l) {
		return api.Table{}, api.ErrArg
	}
	if len(l) > api.MaxRows {
		return api.Table{}, api.ErrFull
	}
	t := api.Table{Kind: api.FD, In: s.In, Out: len(s.On)}
	for _, x := range l {
		t.Lines = append(t.Lines, line(x, t.Out))
	}
	return t, api.OK
}

// line returns the line of a row, with so many outputs.
func line(x api.Row, outputs int) api.Line {
	var outs []int
	for o := range outputs {
		outs = append(outs, value(x.Outs, o))
	}
	return api.Line{Cube: x.Cube, Outs: outs}
}
