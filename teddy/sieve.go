package teddy

import "riddle/lanes"

const (
	halves     = 16 // a byte's lower half is one of so many, and its upper one, too
	halfBits   = 4
	looked     = 3 // the bytes of a literal that a sieve looks at
	buckets    = 8 // of a sieve: a bit of a lane each
	sieveCount = halves / buckets
)

// sieve lets those places through at which a literal of one of its buckets may begin.
type sieve [looked]column

// column tells by the halves of a byte which buckets have a literal that may have it there: bit k is the bucket k.
type column struct {
	lower, upper [halves]byte
}

// bucketOf gives the sieve of a literal and its bucket there, as a bit. A bucket's literals have one upper half of their first bytes: so the two halves tell of a first byte exactly whether a literal has it.
func bucketOf(first byte) (number int, bucket byte) {
	upper := first / halves
	return int(upper / buckets), 1 << (upper % buckets)
}

// add lets a literal through, in a bucket.
func (s *sieve) add(text []byte, bucket byte) {
	for i := range s {
		if i < len(text) {
			s[i].lower[text[i]%halves] |= bucket
			s[i].upper[text[i]/halves] |= bucket
			continue
		}
		// What stands behind a short literal may be any byte.
		for half := range halves {
			s[i].lower[half] |= bucket
			s[i].upper[half] |= bucket
		}
	}
}

// through gives in the lane k the buckets that may have a literal at the place at + k.
func (s *sieve) through(w []byte, at int) uint64 {
	v := s[0].having(lanes.Load(w, at))
	for i := 1; i < looked && v != 0; i++ {
		v &= s[i].having(lanes.Load(w, at+i))
	}
	return v
}

// having gives in each lane the buckets that have a literal with its byte.
func (c *column) having(v uint64) uint64 {
	// Pick looks at the lower halves alone: the upper ones are moved there.
	return lanes.Pick(c.lower, v) & lanes.Pick(c.upper, v>>halfBits)
}
