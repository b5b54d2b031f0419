package teddy

import (
	"bytes"
	"slices"

	"riddle/api"
)

// Stream finds literals in what comes piece by piece.
type Stream struct {
	*Filter
	past []byte // the last bytes so far: as many as a literal may have ahead of a piece
	fed  int
}

// Feed gives the literals that end in a piece.
func (s *Stream) Feed(w []byte) []api.Hit {
	ahead := len(s.past)
	text := slices.Concat(s.past, w)
	out := s.find(text, ahead)
	for i := range out {
		out[i].End += s.fed - ahead
	}
	s.fed += len(w)
	s.past = bytes.Clone(text[max(0, len(text)-s.reach):])
	return out
}

// Kept tells how many bytes are kept of the pieces so far.
func (s *Stream) Kept() int {
	return len(s.past)
}
