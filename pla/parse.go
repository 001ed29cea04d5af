package pla

import (
	"strings"

	"drawknife/api"
	"drawknife/cube"
)

// A part is one of those that a text has in this order: each may only be followed by later ones, rows also by rows.
type part int

const (
	nothing part = iota
	inputs
	outputs
	kind
	count
	rows
	end
)

// unsaid is the number of lines of a text without .p.
const unsaid = -1

// A draft is the table of a text of which some lines have been read.
type draft struct {
	table api.Table
	last  part // the last part that was read
	said  int  // the number of lines that .p said
}

// Parse returns the table of s, or the number of the first line that is at fault and its error.
func Parse(s string) (api.Table, int, api.Errno) {
	if len(s) > api.MaxText {
		return api.Table{}, 0, api.ErrFull
	}
	d := draft{table: api.Table{Kind: api.FD}, said: unsaid}
	at, e := eachLine(s, func(line string) api.Errno {
		if skipped(line) {
			return api.OK
		}
		return d.read(line)
	})
	if e != api.OK {
		return api.Table{}, at, e
	}
	if d.last != end {
		return api.Table{}, at, api.ErrNone
	}
	return d.table, 0, api.OK
}

// eachLine passes the lines of s to take. It returns the number of the first one at fault and its error, or how many there are.
func eachLine(s string, take func(line string) api.Errno) (int, api.Errno) {
	n := 0
	for ; s != ""; n++ {
		line, rest, ended := strings.Cut(s, lineFeed)
		if !ended {
			return n, api.ErrForm
		}
		if e := take(line); e != api.OK {
			return n, e
		}
		s = rest
	}
	return n, api.OK
}

// skipped reports whether line means nothing, wherever it is.
func skipped(line string) bool {
	return line == "" || strings.HasPrefix(line, remark)
}

// read adds a line to the draft. With an error, the draft is of no more use.
func (d *draft) read(line string) api.Errno {
	permitted := false
	switch {
	case d.last == nothing:
		permitted = d.readIn(line)
	case d.last == inputs:
		permitted = d.readOut(line)
	case d.last == end:
	case d.last < kind && strings.HasPrefix(line, kindWord):
		permitted = d.readKind(line)
	case d.last < count && strings.HasPrefix(line, countWord):
		permitted = d.readCount(line)
	case line == endWord:
		permitted = d.readEnd()
	default:
		return d.readRow(line)
	}
	if !permitted {
		return api.ErrForm
	}
	return api.OK
}

func (d *draft) readIn(line string) bool {
	n, ok := number(line, inWord, 0, api.MaxIn)
	d.table.In, d.last = n, inputs
	return ok
}

func (d *draft) readOut(line string) bool {
	n, ok := number(line, outWord, 1, api.MaxOut)
	d.table.Out, d.last = n, outputs
	return ok
}

func (d *draft) readCount(line string) bool {
	n, ok := number(line, countWord, 0, api.MaxRows)
	d.said, d.last = n, count
	return ok
}

func (d *draft) readKind(line string) bool {
	d.last = kind
	word := strings.TrimPrefix(line, kindWord)
	for k, w := range kindWords {
		if w == word {
			d.table.Kind = k
			return true
		}
	}
	return false
}

// readEnd asks for the number of lines that .p said only here: until then, a line too many is a line like others.
func (d *draft) readEnd() bool {
	d.last = end
	return d.said == unsaid || d.said == len(d.table.Lines)
}

func (d *draft) readRow(line string) api.Errno {
	d.last = rows
	l, ok := row(line, d.table.In, d.table.Out)
	if !ok {
		return api.ErrForm
	}
	if len(d.table.Lines) == api.MaxRows {
		return api.ErrFull
	}
	d.table.Lines = append(d.table.Lines, l)
	return api.OK
}

// row returns the line of a table with so many inputs and outputs. Places decide where its words end, since that of a cube without inputs is empty.
func row(line string, in, out int) (api.Line, bool) {
	if len(line) != in+len(gap)+out || line[in:in+len(gap)] != gap {
		return api.Line{}, false
	}
	c, e := cube.Parse(line[:in])
	outs, ok := values(line[in+len(gap):])
	return api.Line{Cube: c, Outs: outs}, e == api.OK && ok
}

// values returns what a word says of the outputs.
func values(word string) ([]int, bool) {
	var outs []int
	for _, r := range word {
		v := strings.IndexRune(outBytes, r)
		if v < 0 {
			return nil, false
		}
		outs = append(outs, v)
	}
	return outs, true
}

// number returns the number that follows word in line, and whether there is one from least to most.
func number(line, word string, least, most int) (int, bool) {
	digits, found := strings.CutPrefix(line, word)
	if !found || digits == "" {
		return 0, false
	}
	n := 0
	for i, r := range digits {
		// Nothing may follow a zero that is the first digit.
		if r < '0' || r > '9' || i > 0 && n == 0 {
			return 0, false
		}
		n = n*10 + int(r-'0')
		// Any more digits could wrap the number round.
		if n > most {
			return 0, false
		}
	}
	return n, n >= least
}
