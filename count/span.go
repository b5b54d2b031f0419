package count

import "riddle/pack"

// span keeps the greatest age alone. As none is ever too great, that one tells whether there is one that is enough.
type span struct {
	bounds
	told int // that age and 1, or 0, if there is none
}

// Arm lets the age 0 be there, which is the greatest one, if there was none.
func (s *span) Arm() {
	s.told = max(s.told, 1)
}

// Done tells whether the greatest age is enough.
func (s *span) Done() bool {
	return s.told > s.least
}

// Size tells in how many bytes a number is written.
func (s *span) Size() int {
	return numberSize
}

// Save gives the greatest age and 1, or 0.
func (s *span) Save() []byte {
	var pen pack.Pen
	pen.Uint(uint64(s.told), numberSize)
	return pen.Data()
}

// grow makes the greatest age one more, till it is the top.
func (s *span) grow() {
	if s.told > 0 {
		s.told = min(s.told, s.top) + 1
	}
}

// forget lets no age be there.
func (s *span) forget() {
	s.told = 0
}

// take reads the greatest age, unless it is above the top.
func (s *span) take(b []byte) bool {
	told := number(pack.NewEye(b))
	if told > s.top+1 {
		return false
	}
	s.told = told
	return true
}
