// Package set provides sets of points: point p is bit p % 64 of word p / 64 of a set.
package set

import (
	"math/bits"

	"drawknife/api"
)

const (
	wordShift = 6 // the bits of a point from here on are the number of its word
	wordBits  = 1 << wordShift
	allPoints = 1 << api.MaxIn
	fullWord  = ^uint64(0)
)

// words makes a set of its words: the operations differ in nothing but how they find one word.
func words(word func(k int) uint64) api.Set {
	var s api.Set
	for k := range s {
		s[k] = word(k)
	}
	return s
}

// isPoint keeps numbers without a bit of their own away from the words.
func isPoint(p int) bool {
	return p >= 0 && p < allPoints
}

// All returns all points of n inputs.
func All(n int) (api.Set, api.Errno) {
	if n < 0 || n > api.MaxIn {
		return api.Set{}, api.ErrArg
	}
	return words(func(k int) uint64 {
		// A shift by a whole word or more leaves no bit, so that full words need no case of their own.
		rest := max(1<<n-k*wordBits, 0)
		return ^(fullWord << rest)
	}), api.OK
}

// Has reports whether point p is in s.
func Has(s api.Set, p int) bool {
	if !isPoint(p) {
		return false
	}
	return s[p>>wordShift]>>(p%wordBits)&1 == 1
}

// With returns s with point p, and s itself if there is no such point.
func With(s api.Set, p int) api.Set {
	if isPoint(p) {
		s[p>>wordShift] |= 1 << (p % wordBits)
	}
	return s
}

// Or returns the points that are in at least one of both.
func Or(a, b api.Set) api.Set {
	return words(func(k int) uint64 { return a[k] | b[k] })
}

// And returns the points that are in both.
func And(a, b api.Set) api.Set {
	return words(func(k int) uint64 { return a[k] & b[k] })
}

// Less returns the points that are in a but not in b.
func Less(a, b api.Set) api.Set {
	return words(func(k int) uint64 { return a[k] &^ b[k] })
}

// Within reports whether each point of a is in b.
func Within(a, b api.Set) bool {
	return Less(a, b) == api.Set{}
}

// Count returns the number of points of s.
func Count(s api.Set) int {
	n := 0
	for _, w := range s {
		n += bits.OnesCount64(w)
	}
	return n
}

// List returns the points of s, in increasing order.
func List(s api.Set) []int {
	var points []int
	for p := range allPoints {
		if Has(s, p) {
			points = append(points, p)
		}
	}
	return points
}

// Half returns the points of s whose bit i is 1, if one is true, and otherwise 0.
func Half(s api.Set, i int, one bool) api.Set {
	if i < 0 || i >= api.MaxIn {
		return api.Set{}
	}
	if one {
		return And(s, ones(i))
	}
	return Less(s, ones(i))
}

// ones returns all points whose bit i is 1. The low bits of a point vary within a word, the others only from word to word.
func ones(i int) api.Set {
	if i < wordShift {
		stripes := striped(i)
		return words(func(int) uint64 { return stripes })
	}
	return words(func(k int) uint64 {
		if k>>(i-wordShift)&1 == 1 {
			return fullWord
		}
		return 0
	})
}

// striped returns the word in which those points are on whose bit i is 1. It doubles a stripe, since bit i of 64 points one by one would be slow in a call that all layers make.
func striped(i int) uint64 {
	width := 1 << i
	word := (uint64(1)<<width - 1) << width
	for step := 2 * width; step < wordBits; step *= 2 {
		word |= word << step
	}
	return word
}
