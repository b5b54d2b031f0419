// Package class is layer 2: see shared/doc/02-class.md.
package class

import (
	"math/bits"

	"riddle/api"
)

const (
	wordBits = 64
	allBytes = 256
	caseBit  = 'a' - 'A'
)

// Of gives the class of some bytes.
func Of(list []byte) api.Class {
	var c api.Class
	for _, b := range list {
		c[b/wordBits] |= mask(b)
	}
	return c
}

// Range gives the class of the bytes from one to another.
func Range(a, b byte) api.Class {
	var c api.Class
	// As int: a byte would wrap round behind 255 and never end.
	for i := int(a); i <= int(b); i++ {
		c[i/wordBits] |= mask(byte(i))
	}
	return c
}

// Has tells whether a byte is in a class.
func Has(c api.Class, b byte) bool {
	return c[b/wordBits]&mask(b) != 0
}

// Or gives what one of two classes has.
func Or(a, b api.Class) api.Class {
	for i := range a {
		a[i] |= b[i]
	}
	return a
}

// And gives what two classes have both.
func And(a, b api.Class) api.Class {
	for i := range a {
		a[i] &= b[i]
	}
	return a
}

// Not gives what a class hasn't.
func Not(c api.Class) api.Class {
	for i := range c {
		c[i] = ^c[i]
	}
	return c
}

// Len tells how many bytes a class has.
func Len(c api.Class) int {
	n := 0
	for _, w := range c {
		n += bits.OnesCount64(w)
	}
	return n
}

// Bytes gives the bytes of a class.
func Bytes(c api.Class) []byte {
	out := make([]byte, 0, Len(c))
	for i := range allBytes {
		if Has(c, byte(i)) {
			out = append(out, byte(i))
		}
	}
	return out
}

// Fold gives a class with the other case of each letter.
func Fold(c api.Class) api.Class {
	out := c
	for b := byte('A'); b <= 'Z'; b++ {
		if pair := Of([]byte{b, b + caseBit}); And(c, pair) != (api.Class{}) {
			out = Or(out, pair)
		}
	}
	return out
}

// Runs gives the runs of bytes of a class.
func Runs(c api.Class) [][2]byte {
	var runs [][2]byte
	for _, b := range Bytes(c) {
		last := len(runs) - 1
		// b is above 0 where a run stands ahead of it, so b - 1 doesn't wrap round.
		if last >= 0 && runs[last][1] == b-1 {
			runs[last][1] = b
		} else {
			runs = append(runs, [2]byte{b, b})
		}
	}
	return runs
}

// mask gives the bit of a byte within its word.
func mask(b byte) uint64 {
	return 1 << (b % wordBits)
}
