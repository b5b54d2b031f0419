// Package sample makes terms, graphs, tables, literals and texts, for the tests of the layers that work on them.
package sample

import (
	"slices"

	"riddle/api"
)

// Op gives a term that is nothing but its kind.
func Op(op int) api.Term {
	return api.Term{Op: op}
}

// Class gives the class of the bytes of a text. (By the document's words, not by layer 2, which the tests needn't trust.)
func Class(text string) api.Class {
	var c api.Class
	for i := range len(text) {
		c[text[i]/64] |= 1 << (text[i] % 64)
	}
	return c
}

// Set gives an OpSet of the bytes of a text.
func Set(text string) api.Term {
	return api.Term{Op: api.OpSet, Set: Class(text)}
}

// Cat gives an OpCat.
func Cat(kids ...api.Term) api.Term {
	return api.Term{Op: api.OpCat, Kids: slices.Clone(kids)}
}

// Alt gives an OpAlt.
func Alt(kids ...api.Term) api.Term {
	return api.Term{Op: api.OpAlt, Kids: slices.Clone(kids)}
}

// Rep gives an OpRep.
func Rep(kid api.Term, least, most int) api.Term {
	return api.Term{Op: api.OpRep, Min: least, Max: most, Kids: []api.Term{kid}}
}

// Many gives a term so many times.
func Many(t api.Term, n int) []api.Term {
	return slices.Repeat([]api.Term{t}, n)
}

// Nest puts a term into others, so many times.
func Nest(t api.Term, n int, into func(api.Term) api.Term) api.Term {
	for range n {
		t = into(t)
	}
	return t
}

// Same tells whether two terms are one; a list without elements is a nil list.
func Same(a, b api.Term) bool {
	return a.Op == b.Op && a.Set == b.Set && a.Min == b.Min && a.Max == b.Max && slices.EqualFunc(a.Kids, b.Kids, Same)
}

// Roomy gives a term of other memory, with spare room in each list.
func Roomy(t api.Term) api.Term {
	kids := make([]api.Term, 0, len(t.Kids)+2)
	for _, kid := range t.Kids {
		kids = append(kids, Roomy(kid))
	}
	t.Kids = append(kids, Op(-5), Op(-6))[:len(kids)]
	return t
}

// Identical tells whether two terms are one, the spare room of their lists too.
func Identical(a, b api.Term) bool {
	return Same(a, b) && slices.EqualFunc(a.Kids[:cap(a.Kids)], b.Kids[:cap(b.Kids)], Identical)
}

// Slots gives the places of all kids of a term, and of the spare room of its lists.
func Slots(t api.Term) []*api.Term {
	var out []*api.Term
	room := t.Kids[:cap(t.Kids)]
	for i := range room {
		out = append(out, &room[i])
		out = append(out, Slots(room[i])...)
	}
	return out
}

// Apart tells whether no lists of some terms have memory in common, their spare room neither.
func Apart(list ...api.Term) bool {
	var slots []*api.Term
	for _, t := range list {
		slots = append(slots, Slots(t)...)
	}
	var before []api.Term
	for _, slot := range slots {
		before = append(before, *slot)
	}
	// What is written to one is seen in another one, if they are one.
	for i, slot := range slots {
		*slot = Op(i)
	}
	apart := true
	for i, slot := range slots {
		apart = apart && slot.Op == i
	}
	for i, slot := range slots {
		*slot = before[i]
	}
	return apart
}

// Grow gives a right term in which OpNone may stand, too, of at most so many levels; pick chooses a number below another one. Its sets and repeats are few and small, so that kids are often the same.
func Grow(pick func(n int) int, levels int) api.Term {
	if levels <= 1 || pick(5) == 0 {
		return leaf(pick)
	}
	if pick(3) == 0 {
		least, most := bounds(pick)
		return Rep(Grow(pick, levels-1), least, most)
	}
	var kids []api.Term
	for range 2 + pick(3) {
		kids = append(kids, Grow(pick, levels-1))
	}
	if pick(2) == 0 {
		return Cat(kids...)
	}
	return Alt(kids...)
}

// leaf gives a term without kids.
func leaf(pick func(n int) int) api.Term {
	switch pick(10) {
	case 0, 1:
		return Op(api.OpEmpty)
	case 2:
		return Op(api.OpDot)
	case 3:
		return Op(api.OpBegin + pick(2))
	case 4:
		return Op(api.OpNone)
	case 5:
		return Set("")
	}
	// Both cases of a letter, a line feed, and what is no letter.
	chars := "abAB\n1\xff"
	at := pick(len(chars))
	return Set(chars[at:min(len(chars), at+1+pick(2))])
}

// bounds gives how often something comes: few times, or any number of times.
func bounds(pick func(n int) int) (least, most int) {
	least = pick(3)
	return least, []int{-1, least, least + 1, least + 2}[pick(4)]
}

// Text gives a text of at most so many bytes, of these; pick chooses a number below another one.
func Text(pick func(n int) int, bytes string, most int) []byte {
	var out []byte
	for range pick(most + 1) {
		out = append(out, bytes[pick(len(bytes))])
	}
	return out
}
