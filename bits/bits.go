// Package bits is layer 1: see shared/doc/01-bits.md.
package bits

import (
	"math/bits"

	"riddle/api"
)

const wordBits = 64

// Trim gives a vector without words 0 at its end.
func Trim(v []uint64) []uint64 {
	return widened(v, 0)
}

// Get tells whether a bit is set.
func Get(v []uint64, i int) bool {
	return i >= 0 && word(v, i/wordBits)&mask(i) != 0
}

// Set gives a vector with a bit set.
func Set(v []uint64, i int) ([]uint64, api.Errno) {
	if !isPlace(i) {
		return nil, api.ErrArg
	}
	out := widened(v, i/wordBits+1)
	out[i/wordBits] |= mask(i)
	return out, api.OK
}

// Clear gives a vector with a bit not set.
func Clear(v []uint64, i int) []uint64 {
	out := widened(v, 0)
	if i >= 0 && i/wordBits < len(out) {
		out[i/wordBits] &^= mask(i)
	}
	return oneForm(out)
}

// And gives what two vectors have both.
func And(a, b []uint64) []uint64 {
	return merge(a, b, func(x, y uint64) uint64 { return x & y })
}

// Or gives what one of two vectors has.
func Or(a, b []uint64) []uint64 {
	return merge(a, b, func(x, y uint64) uint64 { return x | y })
}

// Minus gives what the first vector has and the second one hasn't.
func Minus(a, b []uint64) []uint64 {
	return merge(a, b, func(x, y uint64) uint64 { return x &^ y })
}

// Up gives a vector with all bits moved up.
func Up(v []uint64, n int) ([]uint64, api.Errno) {
	if n < 0 || n > api.MaxBits {
		return nil, api.ErrArg
	}
	v = oneForm(v)
	skip, shift := n/wordBits, uint(n%wordBits)
	out := make([]uint64, len(v)+skip+1)
	for i, w := range v {
		out[i+skip] |= w << shift
		// A shift by all 64 bits gives 0, so nothing is carried where shift is 0.
		out[i+skip+1] = w >> (wordBits - shift)
	}
	return oneForm(out), api.OK
}

// Low gives the bits below a place.
func Low(v []uint64, n int) []uint64 {
	if n <= 0 {
		return nil
	}
	last := n / wordBits
	if last >= len(v) {
		return Trim(v)
	}
	out := make([]uint64, last+1)
	copy(out, v)
	out[last] &= mask(n) - 1
	return oneForm(out)
}

// Count tells how many bits are set.
func Count(v []uint64) int {
	n := 0
	for _, w := range v {
		n += bits.OnesCount64(w)
	}
	return n
}

// List gives the places of the bits that are set.
func List(v []uint64) []int {
	out := make([]int, 0, Count(v))
	for i, w := range v {
		for w != 0 {
			out = append(out, i*wordBits+bits.TrailingZeros64(w))
			w &= w - 1
		}
	}
	return out
}

// Of gives the vector that has bits at these places.
func Of(list []int) ([]uint64, api.Errno) {
	words := 0
	for _, i := range list {
		if !isPlace(i) {
			return nil, api.ErrArg
		}
		words = max(words, i/wordBits+1)
	}
	out := make([]uint64, words)
	for _, i := range list {
		out[i/wordBits] |= mask(i)
	}
	return out, api.OK
}

func isPlace(i int) bool {
	return i >= 0 && i < api.MaxBits
}

// mask gives the bit i within its word; i is 0 or more.
func mask(i int) uint64 {
	return 1 << uint(i%wordBits)
}

// word gives the word i, also behind the list's end; i is 0 or more.
func word(v []uint64, i int) uint64 {
	if i >= len(v) {
		return 0
	}
	return v[i]
}

// oneForm cuts the words 0 off the end; it shares v's memory.
func oneForm(v []uint64) []uint64 {
	n := len(v)
	for n > 0 && v[n-1] == 0 {
		n--
	}
	return v[:n]
}

// widened copies a vector in its one form, with words 0 behind it up to the least number of words.
func widened(v []uint64, least int) []uint64 {
	v = oneForm(v)
	out := make([]uint64, max(len(v), least))
	copy(out, v)
	return out
}

// merge gives the vector whose words are joined from the words of two.
func merge(a, b []uint64, join func(x, y uint64) uint64) []uint64 {
	out := make([]uint64, max(len(a), len(b)))
	for i := range out {
		out[i] = join(word(a, i), word(b, i))
	}
	return oneForm(out)
}
