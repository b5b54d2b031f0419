package syntax

import (
	"riddle/api"
	"riddle/class"
)

// class reads a set of bytes in square brackets.
func (r *reader) class() api.Class {
	r.must('[')
	others := r.takes('^')
	c := r.item()
	for !r.takes(']') {
		c = class.Or(c, r.item())
	}
	if others {
		return class.Not(c)
	}
	return c
}

// item reads bytes of a class: those from one to another, a single one, or a letter's.
func (r *reader) item() api.Class {
	if c, ok := r.letter(); ok {
		return c
	}
	first := r.end()
	last := first
	if r.takes('-') {
		last = r.end()
	}
	return class.Range(first, last)
}

// end reads a byte that bytes of a class can reach from or to.
func (r *reader) end() byte {
	if r.sees('\\') {
		return r.escaped()
	}
	return r.takeBut("[]^-")
}

// escape reads a backslash and what stands behind it, outside of a class.
func (r *reader) escape() api.Class {
	if c, ok := r.letter(); ok {
		return c
	}
	return single(r.escaped())
}

// letter reads a backslash and a letter that stands for several bytes; if that doesn't come next, it reads nothing.
func (r *reader) letter() (api.Class, bool) {
	if !r.sees('\\') || r.at+1 == len(r.text) {
		return api.Class{}, false
	}
	c, ok := meaning(r.text[r.at+1])
	if ok {
		r.at += 2
	}
	return c, ok
}

// meaning gives the bytes for which a letter stands behind a backslash.
func meaning(letter byte) (api.Class, bool) {
	switch letter {
	case 'd':
		return class.Range('0', '9'), true
	case 'w':
		letters := class.Or(class.Range('a', 'z'), class.Range('A', 'Z'))
		return class.Or(class.Or(letters, class.Range('0', '9')), single('_')), true
	case 's':
		return class.Or(class.Range(9, 13), single(' ')), true
	case 'D', 'W', 'S':
		c, ok := meaning(letter + 'a' - 'A')
		return class.Not(c), ok
	}
	return api.Class{}, false
}

// escaped reads a backslash and what makes one byte of it.
func (r *reader) escaped() byte {
	r.must('\\')
	switch {
	case r.takes('n'):
		return '\n'
	case r.takes('t'):
		return '\t'
	case r.takes('r'):
		return '\r'
	case r.takes('x'):
		high := r.hex()
		return high<<4 | r.hex()
	}
	if r.ended() || !isMark(r.text[r.at]) {
		r.giveUp()
	}
	r.at++
	return r.text[r.at-1]
}

// hex reads one of a byte's two hexes.
func (r *reader) hex() byte {
	if r.ended() {
		r.giveUp()
	}
	b := r.text[r.at]
	switch {
	case isDigit(b):
		b -= '0'
	case 'a' <= b && b <= 'f':
		b -= 'a' - 10
	case 'A' <= b && b <= 'F':
		b -= 'A' - 10
	default:
		r.giveUp()
	}
	r.at++
	return b
}

// isMark tells whether a byte stands for itself behind a backslash.
func isMark(b byte) bool {
	return '!' <= b && b <= '~' && !isDigit(b) && !isLetter(b)
}

// isDigit tells whether a byte is a digit.
func isDigit(b byte) bool {
	return '0' <= b && b <= '9'
}

// isLetter tells whether a byte is a letter of either case.
func isLetter(b byte) bool {
	return 'a' <= b && b <= 'z' || 'A' <= b && b <= 'Z'
}
