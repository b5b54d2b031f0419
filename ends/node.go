package ends

import (
	"riddle/api"
	"riddle/class"
)

const (
	lineFeed  = 10
	unbounded = -1 // Max of what may come any number of times
)

// node is a term at work on one text.
type node struct {
	term  api.Term
	kids  []*node
	asked int
	rows  []*places // for each place the ends from there; nil: not yet known
}

// newNode gives a term ready for work.
func newNode(t api.Term) *node {
	n := &node{term: t}
	for _, kid := range t.Kids {
		n.kids = append(n.kids, newNode(kid))
	}
	return n
}

// ends gives the places to which the term matches from some places. Repeats within repeats ask the innermost kid as often as the product of their numbers: so what is asked more often than there are places keeps what it finds from each of them.
func (n *node) ends(w []byte, from places) places {
	if from.none() {
		return places{}
	}
	if n.asked <= len(w) {
		n.asked++
		return n.match(w, from)
	}
	if n.rows == nil {
		n.rows = make([]*places, len(w)+1)
	}
	var out places
	for i := range from.each {
		if n.rows[i] == nil {
			row := n.match(w, at(i))
			n.rows[i] = &row
		}
		out.put(*n.rows[i])
	}
	return out
}

// match gives the ends by the term's meaning.
func (n *node) match(w []byte, from places) places {
	switch n.term.Op {
	case api.OpEmpty:
		return from
	case api.OpSet:
		return pass(w, from, func(b byte) bool { return class.Has(n.term.Set, b) })
	case api.OpDot:
		return pass(w, from, func(b byte) bool { return b != lineFeed })
	case api.OpBegin:
		return just(0, from)
	case api.OpEnd:
		return just(len(w), from)
	case api.OpCat:
		for _, kid := range n.kids {
			from = kid.ends(w, from)
		}
		return from
	case api.OpAlt:
		var out places
		for _, kid := range n.kids {
			out.put(kid.ends(w, from))
		}
		return out
	case api.OpRep:
		// A term that isn't right may have no kid.
		if len(n.kids) == 1 {
			return n.more(w, n.times(w, from))
		}
	}
	return places{}
}

// pass gives the places behind those bytes at some places that are wanted.
func pass(w []byte, from places, wanted func(b byte) bool) places {
	out := from.room()
	for i := range from.each {
		if i < len(w) && wanted(w[i]) {
			out.mark(i + 1)
		}
	}
	return out.trimmed()
}

// just gives a place, if it is among some.
func just(i int, from places) places {
	if from.has(i) {
		return at(i)
	}
	return places{}
}

// times gives where the kid ends when it has come as often as it must.
func (n *node) times(w []byte, from places) places {
	for range max(n.term.Min, 0) {
		next := n.kids[0].ends(w, from)
		// From here on nothing changes any more. It comes to that behind some more times than there are bytes: each place stays or moves ahead.
		if next.same(from) {
			break
		}
		from = next
	}
	return from
}

// more gives where the kid ends when it comes again, up to as often as it may.
func (n *node) more(w []byte, from places) places {
	out := from.copied()
	for k := n.term.Min; !from.none() && (k < n.term.Max || n.term.Max == unbounded); k++ {
		// Only from new places on: from all others it leads to nothing new.
		from = n.kids[0].ends(w, from).but(out)
		out.put(from)
	}
	return out
}
