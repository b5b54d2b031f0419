package syntax_test

import (
	"bytes"
	"fmt"
	"math/rand"
	"testing"

	"riddle/api"
	"riddle/syntax"
)

// grower makes a pattern and what it means, by the grammar.
type grower struct{ *rand.Rand }

func (g grower) alt(deep int) (string, api.Term) {
	text, first := g.cat(deep)
	kids := []api.Term{first}
	for g.Intn(3) == 0 {
		more, kid := g.cat(deep)
		text += "|" + more
		kids = append(kids, kid)
	}
	if len(kids) == 1 {
		return text, first
	}
	return text, alt(kids...)
}

func (g grower) cat(deep int) (string, api.Term) {
	var text string
	var kids []api.Term
	for range g.Intn(4) {
		more, kid := g.rep(deep)
		text += more
		kids = append(kids, kid)
	}
	switch len(kids) {
	case 0:
		return "", op(api.OpEmpty)
	case 1:
		return text, kids[0]
	}
	return text, cat(kids...)
}

func (g grower) rep(deep int) (string, api.Term) {
	text, kid := g.atom(deep)
	least := g.Intn(201)
	most := least + g.Intn(201-least)
	switch g.Intn(9) {
	case 0:
		return text + "*", rep(kid, 0, -1)
	case 1:
		return text + "+", rep(kid, 1, -1)
	case 2:
		return text + "?", rep(kid, 0, 1)
	case 3:
		return text + fmt.Sprintf("{%0*d}", 1+g.Intn(3), least), rep(kid, least, least)
	case 4:
		return text + fmt.Sprintf("{%0*d,}", 1+g.Intn(3), least), rep(kid, least, -1)
	case 5:
		return text + fmt.Sprintf("{%0*d,%0*d}", 1+g.Intn(3), least, 1+g.Intn(3), most), rep(kid, least, most)
	}
	return text, kid
}

func (g grower) atom(deep int) (string, api.Term) {
	switch n := g.Intn(9); {
	case n < 3 && deep > 0:
		text, t := g.alt(deep - 1)
		return "(" + text + ")", t
	case n == 3:
		kind := g.Intn(3)
		return ".^$"[kind : kind+1], op([]int{api.OpDot, api.OpBegin, api.OpEnd}[kind])
	case n == 4:
		text, c := g.class()
		return text, api.Term{Op: api.OpSet, Set: c}
	case n == 5:
		b := byte(g.Intn(256))
		return fmt.Sprintf("\\x%02x", b), set(string([]byte{b}))
	}
	b := "abz09 ,-/_=~\x00\x80\xff"[g.Intn(15)]
	return string([]byte{b}), set(string([]byte{b}))
}

func (g grower) class() (string, api.Class) {
	text, turned := "[", g.Intn(2) == 0
	if turned {
		text += "^"
	}
	var c api.Class
	for range 1 + g.Intn(3) {
		first, last := g.Intn(256), g.Intn(256)
		if g.Intn(2) == 0 {
			last = first
			text += fmt.Sprintf("\\x%02X", first)
		} else {
			text += fmt.Sprintf("\\x%02x-\\x%02x", first, last)
		}
		for b := first; b <= last; b++ {
			c[b/64] |= 1 << (b % 64)
		}
	}
	if turned {
		return text + "]", api.Class{^c[0], ^c[1], ^c[2], ^c[3]}
	}
	return text + "]", c
}

// grown gives patterns that aren't too long, and what they mean.
func grown(seed int64, n int, use func(text string, t api.Term)) {
	g := grower{rand.New(rand.NewSource(seed))}
	for n > 0 {
		if text, t := g.alt(6); len(text) <= 200 {
			use(text, t)
			n--
		}
	}
}

// P5.1: what is read, against what a pattern was made of.
func TestGrown(t *testing.T) {
	grown(1, 50000, func(text string, want api.Term) { reads(t, text, want) })
}

// scrub writes over a term's lists, their spare room too.
func scrub(t api.Term) {
	kids := t.Kids[:cap(t.Kids)]
	for i := range kids {
		scrub(kids[i])
		kids[i] = api.Term{Op: -7, Min: -7}
	}
}

// P5.2: what is handed in is as it was, its spare room too, and what is answered doesn't hang on it.
func TestHandedIn(t *testing.T) {
	grown(2, 300, func(text string, want api.Term) {
		room := append([]byte(text), "spare"...)
		got, e, _ := syntax.Parse(room[:len(text)])
		if string(room) != text+"spare" {
			t.Errorf("%q was changed", text)
		}
		copy(room, bytes.Repeat([]byte{'*'}, len(room)))
		if e != api.OK || !same(got, want) {
			t.Errorf("%q: %v, %v", text, got, e)
		}
	})
	for _, text := range []string{"a**", "a{3,2}", "(a"} {
		room := append([]byte(text), "spare"...)
		if syntax.Parse(room[:len(text)]); string(room) != text+"spare" {
			t.Errorf("%q was changed", text)
		}
	}
	reads(t, "", op(api.OpEmpty))
	if got, e, at := syntax.Parse(nil); e != api.OK || at != 0 || !same(got, op(api.OpEmpty)) {
		t.Errorf("nil: %v, %v, %d", got, e, at)
	}
}

// P5.2 and P2: answers share no memory with each other, and a text is always read alike.
func TestNewMemory(t *testing.T) {
	grown(3, 300, func(text string, want api.Term) {
		one, _, _ := syntax.Parse([]byte(text))
		two, _, _ := syntax.Parse([]byte(text))
		scrub(one)
		if !same(two, want) {
			t.Errorf("%q: %v, not %v", text, two, want)
		}
	})
}

// P5.2: the lists of one answer share no memory: writing over the spare room of one isn't seen in another.
func TestOwnRoom(t *testing.T) {
	var spoil func(t api.Term)
	spoil = func(t api.Term) {
		for _, kid := range t.Kids {
			spoil(kid)
		}
		spare := t.Kids[len(t.Kids):cap(t.Kids)]
		for i := range spare {
			spare[i] = api.Term{Op: -7}
		}
	}
	grown(4, 300, func(text string, want api.Term) {
		got, _, _ := syntax.Parse([]byte(text))
		spoil(got)
		if !same(got, want) {
			t.Errorf("%q: %v, not %v", text, got, want)
		}
	})
}
