package ends

import (
	"math/bits"
	"slices"
)

const wordBits = 64

// places is a set of places of a text: the bit k of words[i] is the place 64 * (first + i) + k. It has no words of 0 at its ends, so that few places of a long text are few words; the zero value is no places.
type places struct {
	first int
	words []uint64
}

// at gives one place.
func at(i int) places {
	return places{i / wordBits, []uint64{1 << (i % wordBits)}}
}

// upTo gives all places from 0 to one.
func upTo(last int) places {
	words := make([]uint64, last/wordBits+1)
	for i := range words {
		words[i] = ^uint64(0)
	}
	words[last/wordBits] >>= wordBits - 1 - last%wordBits
	return places{0, words}
}

// none tells whether there are no places.
func (p places) none() bool {
	return len(p.words) == 0
}

// same tells whether two sets are one.
func (p places) same(q places) bool {
	return p.first == q.first && slices.Equal(p.words, q.words)
}

// has tells whether a place is among some.
func (p places) has(i int) bool {
	k := i/wordBits - p.first
	return k >= 0 && k < len(p.words) && p.words[k]>>(i%wordBits)&1 == 1
}

// each goes through the places, rising.
func (p places) each(yield func(i int) bool) {
	for k, word := range p.words {
		for ; word != 0; word &= word - 1 {
			if !yield((p.first+k)*wordBits + bits.TrailingZeros64(word)) {
				return
			}
		}
	}
}

// copied gives the same places in other memory.
func (p places) copied() places {
	return places{p.first, slices.Clone(p.words)}
}

// room gives no places yet, but room for all that are next to those that there are. It must be trimmed when they are marked.
func (p places) room() places {
	return places{p.first, make([]uint64, len(p.words)+1)}
}

// mark adds a place for which there is room.
func (p places) mark(i int) {
	p.words[i/wordBits-p.first] |= 1 << (i % wordBits)
}

// put adds places, in the memory of those that there are.
func (p *places) put(q places) {
	switch {
	case q.none():
		return
	case p.none():
		*p = q.copied()
		return
	}
	if q.first < p.first {
		p.words = slices.Concat(make([]uint64, p.first-q.first), p.words)
		p.first = q.first
	}
	ahead := q.first - p.first
	for len(p.words) < ahead+len(q.words) {
		p.words = append(p.words, 0)
	}
	for k, word := range q.words {
		p.words[ahead+k] |= word
	}
}

// but gives those places that aren't among others.
func (p places) but(q places) places {
	out := p.copied()
	for k := range out.words {
		if at := out.first + k - q.first; at >= 0 && at < len(q.words) {
			out.words[k] &^= q.words[at]
		}
	}
	return out.trimmed()
}

// trimmed gives the same places without words of 0 at the ends.
func (p places) trimmed() places {
	for len(p.words) > 0 && p.words[len(p.words)-1] == 0 {
		p.words = p.words[:len(p.words)-1]
	}
	for len(p.words) > 0 && p.words[0] == 0 {
		p.words = p.words[1:]
		p.first++
	}
	if len(p.words) == 0 {
		return places{}
	}
	return p
}
