// Package marks has sets of a graph's positions, as bits in an array: they are compared as they are, can be keys of a map, and are worked on without new memory.
package marks

import (
	"math/bits"

	"riddle/api"
)

const (
	wordBits = 64
	words    = (api.MaxPositions + wordBits - 1) / wordBits
)

// Set is a set of positions below api.MaxPositions: the position p is bit p mod 64 of the word p div 64. Others must not be asked for.
type Set [words]uint64

// Of gives the set of some positions.
func Of(list []int) Set {
	var s Set
	for _, p := range list {
		s.Add(p)
	}
	return s
}

// Add puts a position in.
func (s *Set) Add(p int) {
	s[p/wordBits] |= 1 << (p % wordBits)
}

// Drop takes a position out.
func (s *Set) Drop(p int) {
	s[p/wordBits] &^= 1 << (p % wordBits)
}

// Join puts all positions of another set in.
func (s *Set) Join(t Set) {
	for i, word := range t {
		s[i] |= word
	}
}

// Has tells whether a position is in a set.
func (s Set) Has(p int) bool {
	return s[p/wordBits]>>(p%wordBits)&1 == 1
}

// None tells whether a set has no positions.
func (s Set) None() bool {
	return s == Set{}
}

// And gives what two sets have both.
func (s Set) And(t Set) Set {
	for i, word := range t {
		s[i] &= word
	}
	return s
}

// Up gives a set with all positions moved up, none of them beyond the last one that there may be.
func (s Set) Up(n int) Set {
	var out Set
	for p := range s.Each {
		out.Add(p + n)
	}
	return out
}

// Each goes through the positions of a set, rising.
func (s Set) Each(yield func(p int) bool) {
	for i, word := range s {
		for ; word != 0; word &= word - 1 {
			if !yield(i*wordBits + bits.TrailingZeros64(word)) {
				return
			}
		}
	}
}

// List gives the positions of a set, rising.
func (s Set) List() []int {
	var out []int
	for p := range s.Each {
		out = append(out, p)
	}
	return out
}
