package hoist

import (
	"slices"

	"riddle/api"
	"riddle/width"
)

// The parts of a term, by where they are matched.
const (
	anywhere = iota
	atBegin
	atEnd
	whole // from the beginning to the end
	count
)

const unbounded = -1 // Max of what may come any number of times

// parts is the four parts of a term. Their lists may be shared, among them and with what was handed in, until they are told.
type parts [count]piece

// piece is a term without anchors, of which it is known whether it is null: it may be built up of very many, too many to go through them again each time.
type piece struct {
	term api.Term
	null bool
}

// told gives a term that was handed in as a piece.
func told(t api.Term) piece {
	return piece{t, width.Nullable(t)}
}

// none gives what matches nothing at all.
func none() piece {
	return piece{api.Term{Op: api.OpNone}, false}
}

// empty gives what matches nothing between.
func empty() piece {
	return piece{api.Term{Op: api.OpEmpty}, true}
}

// nothing gives parts that all match nothing at all.
func nothing() *parts {
	return &parts{none(), none(), none(), none()}
}

// only gives parts of which one is told.
func only(which int, p piece) *parts {
	out := nothing()
	out[which] = p
	return out
}

// known gives terms that were handed in as parts.
func known(list [count]api.Term) *parts {
	var out parts
	for i, t := range list {
		out[i] = told(t)
	}
	return &out
}

// terms gives parts as terms of new memory.
func (p *parts) terms() [count]api.Term {
	var out [count]api.Term
	for i := range p {
		out[i] = fresh(p[i].term)
	}
	return out
}

// fresh gives a term of new memory. Not by calling itself: of many kids side by side, parts are built that have as many levels.
func fresh(t api.Term) api.Term {
	work := []*api.Term{&t}
	for len(work) > 0 {
		at := work[len(work)-1]
		work = work[:len(work)-1]
		at.Kids = slices.Clone(at.Kids)
		for i := range at.Kids {
			work = append(work, &at.Kids[i])
		}
	}
	return t
}

// is tells whether a piece is of a kind.
func (p piece) is(op int) bool {
	return p.term.Op == op
}

// when gives a piece if something holds, else what matches nothing at all.
func (p piece) when(holds bool) piece {
	if holds {
		return p
	}
	return none()
}

// cat gives one piece behind another.
func cat(a, b piece) piece {
	switch {
	case a.is(api.OpNone) || b.is(api.OpNone):
		return none()
	case a.is(api.OpEmpty):
		return b
	case b.is(api.OpEmpty):
		return a
	}
	return piece{api.Term{Op: api.OpCat, Kids: []api.Term{a.term, b.term}}, a.null && b.null}
}

// alt gives the choice among pieces.
func alt(list ...piece) piece {
	out := none()
	for _, p := range list {
		switch {
		case out.is(api.OpNone):
			out = p
		case !p.is(api.OpNone):
			out = piece{api.Term{Op: api.OpAlt, Kids: []api.Term{out.term, p.term}}, out.null || p.null}
		}
	}
	return out
}

// star gives a piece any number of times.
func star(a piece) piece {
	if a.is(api.OpNone) || a.is(api.OpEmpty) {
		return empty()
	}
	return piece{api.Term{Op: api.OpRep, Max: unbounded, Kids: []api.Term{a.term}}, true}
}

// plus gives a piece once or more often.
func plus(a piece) piece {
	if a.is(api.OpNone) || a.is(api.OpEmpty) {
		return a
	}
	return piece{api.Term{Op: api.OpRep, Min: 1, Max: unbounded, Kids: []api.Term{a.term}}, a.null}
}

// join gives the parts of a term with those of another one behind it.
func join(x, y *parts) *parts {
	// A side that may match nothing between leaves the place to the other one's anchor.
	left := x[anywhere].null || x[atBegin].null
	right := y[anywhere].null || y[atEnd].null
	// An end ahead of a beginning: in a stream without bytes alone.
	meet := (x[atEnd].null || x[whole].null) && (y[atBegin].null || y[whole].null)
	return &parts{
		anywhere: cat(x[anywhere], y[anywhere]),
		atBegin:  alt(cat(x[atBegin], y[anywhere]), y[atBegin].when(left)),
		atEnd:    alt(cat(x[anywhere], y[atEnd]), x[atEnd].when(right)),
		whole:    alt(cat(x[atBegin], y[atEnd]), x[whole].when(right), y[whole].when(left), empty().when(meet)),
	}
}

// choose gives the parts of a choice between a term and another one.
func choose(x, y *parts) *parts {
	var out parts
	for i := range out {
		out[i] = alt(x[i], y[i])
	}
	return &out
}

// repeat gives the parts of a repeat, of which the kid's parts are known.
func repeat(p *parts, least, most int) *parts {
	out := *p
	switch {
	case most == 0:
		return only(anywhere, empty())
	case most == unbounded:
		between := star(p[anywhere])
		ahead := cat(p[atBegin], between)
		out[anywhere] = plus(p[anywhere])
		if least == 0 {
			out[anywhere] = between
		}
		out[atBegin] = ahead
		out[atEnd] = cat(between, p[atEnd])
		out[whole] = alt(p[whole], cat(ahead, p[atEnd]))
	case least == 0:
		out[anywhere] = alt(empty(), p[anywhere])
	}
	return &out
}
