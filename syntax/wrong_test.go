package syntax_test

import (
	"math/rand"
	"strconv"
	"strings"
	"testing"

	"riddle/api"
	"riddle/sample"
	"riddle/syntax"
)

// P5.1: in braces.
func TestBraces(t *testing.T) {
	for text, at := range map[string]int{
		"a{": 2, "a{}": 2, "a{,": 2, "a{,2}": 2, "a{x}": 2, "a{1": 3, "a{12": 4, "a{123": 5, "a{1234}": 5, "a{0000}": 5, "a{1x}": 3, "a{1,": 4, "a{1,,": 4, "a{1,x}": 4, "a{1,2": 5, "a{1,234": 7, "a{1,2345}": 7, "a{1,2,}": 5, "a{1 }": 3, "a{ 1}": 2, "a{1, 2}": 4, "a{-1}": 2, "{1}": 0, "({1})": 1, "|{1}": 1, "a{1}{2}": 4, "a{1}*": 4, "a}": 1, "a{1}}": 4,
	} {
		refuses(t, text, api.ErrSyntax, at)
	}
	for text, at := range map[string]int{
		"a{201}": 1, "a{999}": 1, "a{201,}": 1, "a{0,201}": 1, "a{201,200}": 1, "a{201,201}": 1, "a{1,0}": 1, "a{3,2}": 1, "a{200,199}": 1, "a{10,9}": 1, "a{2}b{201}": 5, "(a{300}){400}": 2, "(a{3}){400}": 6, "a{2,1}b{201}": 1, "\\{a{201}": 3, "[{]{201}": 3, "[{2,1}]a{2,1}": 8,
	} {
		refuses(t, text, api.ErrRepeat, at)
	}
}

// P5.1: groups within groups.
func TestDeep(t *testing.T) {
	nest := func(n int, in string) string { return strings.Repeat("(", n) + in + strings.Repeat(")", n) }
	reads(t, nest(30, "a"), set("a"))
	reads(t, nest(30, "a")+nest(30, "b"), cat(set("a"), set("b")))
	refuses(t, nest(31, "a"), api.ErrDeep, 30)
	refuses(t, nest(100, ""), api.ErrDeep, 30)
	refuses(t, "ab"+nest(30, "a()"), api.ErrDeep, 33)
	refuses(t, nest(29, "()(a|())()"), api.ErrDeep, 34)
	refuses(t, nest(30, "a")+nest(31, "b"), api.ErrDeep, 91)
	reads(t, nest(30, "\\("), set("("))
	reads(t, nest(30, "[(]"), set("("))
	reads(t, nest(30, "(")[:30]+"a"+strings.Repeat(")", 29)+"b)", cat(set("a"), set("b")))
}

// P5.1: the first of several errors.
func TestOrder(t *testing.T) {
	deep := strings.Repeat("(", 31) + strings.Repeat(")", 31)
	refuses(t, strings.Repeat("*", 201), api.ErrLong, 200)
	refuses(t, strings.Repeat("*", 1<<20), api.ErrLong, 200)
	refuses(t, strings.Repeat("a", 201), api.ErrLong, 200)
	refuses(t, deep+"a{2,1}"+strings.Repeat("a", 200), api.ErrLong, 200)
	refuses(t, deep+"a{2,1}*", api.ErrSyntax, 68)
	refuses(t, "a{2,1}"+deep+")", api.ErrSyntax, 68)
	refuses(t, deep+"a{201}(", api.ErrSyntax, 69)
	refuses(t, "a{201}"+deep, api.ErrDeep, 36)
	refuses(t, deep+"{201}", api.ErrDeep, 30)
	reads(t, strings.Repeat("a", 199)+"*", cat(append(sample.Many(set("a"), 198), rep(set("a"), 0, -1))...))
	refuses(t, strings.Repeat("a", 199)+")", api.ErrSyntax, 199)
	refuses(t, strings.Repeat("(", 200), api.ErrSyntax, 200)
}

// The states of the model, which goes through a pattern byte by byte: what has come just now.
const (
	free        = iota // nothing that a quant may stand behind
	atom               // an atom
	brace              // {
	oneDigit           // {1
	twoDigits          // {12
	threeDigits        // {123
	comma              // {1,
	oneMore            // {1,2
	twoMore            // {1,23
	threeMore          // {1,234
	bracket            // [
	caret              // [^
	item               // [a
	whole              // [a-b
	dash               // [a-
	escape             // \, with what follows it in back
	firstHex           // \x
	secondHex          // \x4
)

// model tells which byte a text can't go on with, by going from state to state.
type model struct {
	state, back  int // back: the state that an escape leads to
	open         int
	deep, repeat int
	brace        int
}

// step takes a byte; false: it can't.
func (m *model) step(text string, at int) bool {
	b := text[at]
	digit := '0' <= b && b <= '9'
	switch m.state {
	case free, atom:
		return m.outside(b, at)
	case brace, comma, oneDigit, twoDigits, oneMore, twoMore:
		if digit {
			m.state = map[int]int{brace: oneDigit, oneDigit: twoDigits, twoDigits: threeDigits, comma: oneMore, oneMore: twoMore, twoMore: threeMore}[m.state]
			return true
		}
	}
	switch m.state {
	case oneDigit, twoDigits, threeDigits, comma, oneMore, twoMore, threeMore:
		if b == ',' && m.state < comma {
			m.state = comma
			return true
		}
		if b != '}' {
			return false
		}
		m.numbers(text[m.brace+1 : at])
		m.state = free
		return true
	case bracket, caret, item, whole, dash:
		return m.inside(b)
	case escape:
		return m.escaped(b)
	case firstHex, secondHex:
		if !strings.Contains("0123456789abcdefABCDEF", string(rune(b))) || b > 126 {
			return false
		}
		if m.state == firstHex {
			m.state = secondHex
		} else {
			m.state = m.back
		}
		return true
	}
	return false
}

func (m *model) outside(b byte, at int) bool {
	was := m.state
	m.state = atom
	switch b {
	case '(':
		if m.open++; m.open > 30 && m.deep < 0 {
			m.deep = at
		}
		m.state = free
	case ')':
		m.open--
		return m.open >= 0
	case '|':
		m.state = free
	case '*', '+', '?':
		m.state = free
		return was == atom
	case '{':
		m.state, m.brace = brace, at
		return was == atom
	case '[':
		m.state = bracket
	case '\\':
		m.state, m.back = escape, atom
	case ']', '}':
		return false
	}
	return true
}

func (m *model) inside(b byte) bool {
	was := m.state
	m.state = item
	if was == dash {
		m.state = whole
	}
	switch b {
	case '\\':
		m.back, m.state = m.state, escape
	case '^':
		m.state = caret
		return was == bracket
	case ']':
		m.state = atom
		return was == item || was == whole
	case '-':
		m.state = dash
		return was == item
	case '[':
		return false
	}
	return true
}

func (m *model) escaped(b byte) bool {
	m.state = m.back
	switch b {
	case 'x':
		m.state = firstHex
		return true
	case 'n', 't', 'r':
		return true
	case 'd', 'w', 's', 'D', 'W', 'S':
		if m.back == item {
			m.state = whole
			return true
		}
		return m.back == atom
	}
	return strings.Contains(allMarks, string(rune(b))) && b < 127
}

func (m *model) numbers(text string) {
	first, second, two := strings.Cut(text, ",")
	least, _ := strconv.Atoi(first)
	most := least
	if second != "" {
		most, _ = strconv.Atoi(second)
	}
	wrong := least > 200 || two && second != "" && (most > 200 || most < least)
	if wrong && m.repeat < 0 {
		m.repeat = m.brace
	}
}

// wants gives what the document asks of a text.
func wants(text string) (api.Errno, int) {
	if len(text) > 200 {
		return api.ErrLong, 200
	}
	m := &model{deep: -1, repeat: -1}
	for at := range len(text) {
		if !m.step(text, at) {
			return api.ErrSyntax, at
		}
	}
	switch {
	case m.state > atom || m.open > 0:
		return api.ErrSyntax, len(text)
	case m.deep >= 0:
		return api.ErrDeep, m.deep
	case m.repeat >= 0:
		return api.ErrRepeat, m.repeat
	}
	return api.OK, 0
}

// P5.1: all short texts of the bytes that mean something, against the model.
func TestAllShort(t *testing.T) {
	const alphabet = "a1,-\\x^[](){}|*d"
	var try func(text string, left int)
	try = func(text string, left int) {
		code, place := wants(text)
		if _, e, at := syntax.Parse([]byte(text)); e != code || at != place {
			t.Fatalf("%q: %v, %d, not %v, %d", text, e, at, code, place)
		}
		for i := 0; left > 0 && i < len(alphabet); i++ {
			try(text+alphabet[i:i+1], left-1)
		}
	}
	try("", 5)
}

// P5.1: long texts of pieces that go together, against the model.
func TestMixed(t *testing.T) {
	pieces := strings.Split("( ( ( ( ) ) ) a b c | * + ? . ^ $ {3} {2,} {2,7} {200} {7,2} {201} {1,300} [a-c] [^\\d] [\\n-z] \\x41 \\xfg \\w \\S \\( \\q [ ] { } - , \\ 9 \xff \x00", " ")
	r := rand.New(rand.NewSource(5))
	for range 200000 {
		var text string
		for range r.Intn(24) {
			// Mostly pieces that can't be wrong, so that the first error comes late.
			if r.Intn(4) > 0 {
				text += "a*b(c)"[:1+r.Intn(5)]
			}
			text += pieces[r.Intn(len(pieces))]
		}
		if r.Intn(2) == 0 {
			text = strings.Repeat("(", r.Intn(40)) + text
			text += strings.Repeat(")", max(0, strings.Count(text, "(")-strings.Count(text, ")")))
		}
		code, place := wants(text)
		if got, e, at := syntax.Parse([]byte(text)); e != code || at != place || e != api.OK && !same(got, api.Term{}) {
			t.Fatalf("%q: %v, %d, not %v, %d", text, e, at, code, place)
		}
	}
}
