// Package marks has sets of a graph's positions, or of the bits of its states, as bits in an array: they are compared as they are, can be keys of a map, and are worked on without new memory.
package marks

import (
	"math/bits"

	"riddle/api"
)

const (
	wordBits = 64
	// A state has one bit more than there are positions.
	words = api.MaxPositions/wordBits + 1
)

// Set is a set of numbers from 0 to api.MaxPositions, positions or bits of states: the number p is bit p mod 64 of the word p div 64. Others must not be asked for.
type Set [words]uint64

// Of gives the set of some numbers.
func Of(list []int) Set {
	var s Set
	for _, p := range list {
		s.Add(p)
	}
	return s
}

// Add puts a number in.
func (s *Set) Add(p int) {
	s[p/wordBits] |= 1 << (p % wordBits)
}

// Drop takes a number out.
func (s *Set) Drop(p int) {
	s[p/wordBits] &^= 1 << (p % wordBits)
}

// Join puts all numbers of another set in.
func (s *Set) Join(t Set) {
	for i := range s {
		s[i] |= t[i]
	}
}

// Has tells whether a number is in a set.
func (s Set) Has(p int) bool {
	return s[p/wordBits]>>(p%wordBits)&1 == 1
}

// None tells whether a set has no numbers.
func (s Set) None() bool {
	return s == Set{}
}

// And gives what two sets have both.
func (s Set) And(t Set) Set {
	for i, word := range t {
		s[i] &= word
	}
	return s
}

// Up gives a set with all numbers moved up, none of them beyond the last one that there may be.
func (s Set) Up(n int) Set {
	var out Set
	for p := range s.Each {
		out.Add(p + n)
	}
	return out
}

// Each goes through the numbers of a set, rising.
func (s Set) Each(yield func(p int) bool) {
	for i, word := range s {
		for ; word != 0; word &= word - 1 {
			if !yield(i*wordBits + bits.TrailingZeros64(word)) {
				return
			}
		}
	}
}

// List gives the numbers of a set, rising.
func (s Set) List() []int {
	var out []int
	for p := range s.Each {
		out = append(out, p)
	}
	return out
}
