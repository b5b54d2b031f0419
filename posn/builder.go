package posn

import (
	"riddle/api"
	"riddle/class"
	"riddle/marks"
)

const unbounded = -1 // the most of a repeat that has no bound

// isBounded tells whether each repeat of a term has one kid, and bounds that a right term has. Those of a term that isn't right might be more than can be laid out, though layer 7 counts few positions.
func isBounded(t api.Term) bool {
	if t.Op == api.OpRep {
		if len(t.Kids) != 1 || t.Min < 0 || t.Min > api.MaxRepeat || t.Max > api.MaxRepeat || t.Max != unbounded && t.Max < t.Min {
			return false
		}
	}
	for _, kid := range t.Kids {
		if !isBounded(kid) {
			return false
		}
	}
	return true
}

// builder is the graph of a term that is being laid out: Sets are those of the positions so far. How they go on stands in sets meanwhile, as a list would have to be sorted again and again.
type builder struct {
	api.Graph
	follow []marks.Set
}

// piece is what a term that was laid out may begin and end with, and whether it can match nothing between.
type piece struct {
	first, last marks.Set
	empty       bool
}

// or adds another piece to choose.
func (x *piece) or(y *piece) {
	x.first.Join(y.first)
	x.last.Join(y.last)
	x.empty = x.empty || y.empty
}

// lay adds the positions of a term.
func (b *builder) lay(t api.Term) *piece {
	switch t.Op {
	case api.OpEmpty:
		return &piece{empty: true}
	case api.OpSet:
		return b.position(t.Set)
	case api.OpDot:
		return b.position(class.Not(class.Of([]byte{'\n'})))
	case api.OpCat:
		row := &piece{empty: true}
		for _, kid := range t.Kids {
			b.then(row, b.lay(kid))
		}
		return row
	case api.OpAlt:
		choice := &piece{}
		for _, kid := range t.Kids {
			choice.or(b.lay(kid))
		}
		return choice
	case api.OpRep:
		return b.repeat(t)
	}
	return &piece{}
}

// position adds a position.
func (b *builder) position(set api.Class) *piece {
	var one marks.Set
	one.Add(len(b.Sets))
	b.Sets = append(b.Sets, set)
	b.follow = append(b.follow, marks.Set{})
	return &piece{first: one, last: one}
}

// link lets some positions follow each of others.
func (b *builder) link(last, first marks.Set) {
	// A row may have any number of kids without positions.
	if first.None() {
		return
	}
	for p := range last.Each {
		b.follow[p].Join(first)
	}
}

// then puts another piece behind one.
func (b *builder) then(x, y *piece) {
	b.link(x.last, y.first)
	if x.empty {
		x.first.Join(y.first)
	}
	if !y.empty {
		x.last = marks.Set{}
	}
	x.last.Join(y.last)
	x.empty = x.empty && y.empty
}

// repeat adds the positions of a repeat's kid, as often as it stands there when it is laid out.
func (b *builder) repeat(t api.Term) *piece {
	if t.Max == 0 {
		return &piece{empty: true}
	}
	begin := len(b.Sets)
	kid := b.lay(t.Kids[0])
	if len(b.Sets) == begin {
		// Repeats of nothing, within one another, would be too many to be laid out.
		return &piece{empty: kid.empty || t.Min == 0}
	}
	most := t.Max
	if most == unbounded {
		most = max(t.Min, 1)
	}
	list := b.copies(kid, begin, most)
	if t.Max == unbounded {
		b.link(list[most-1].last, list[most-1].first)
	}
	// From the last one on, as those that may be missing stand within one another.
	row := &piece{empty: true}
	for k := most - 1; k >= 0; k-- {
		b.then(list[k], row)
		row = list[k]
		row.empty = row.empty || k >= t.Min
	}
	return row
}

// copies gives a piece, whose positions are all from a number on, so many times in all, the others with positions behind them. (Laying out a kid anew each time would go through all of its levels each time.)
func (b *builder) copies(kid *piece, begin, n int) []*piece {
	end := len(b.Sets)
	list := []*piece{kid}
	for k := 1; k < n; k++ {
		up := k * (end - begin)
		b.Sets = append(b.Sets, b.Sets[begin:end]...)
		for _, behind := range b.follow[begin:end] {
			b.follow = append(b.follow, behind.Up(up))
		}
		list = append(list, &piece{kid.first.Up(up), kid.last.Up(up), kid.empty})
	}
	return list
}

// finish gives the graph of all that was laid out.
func (b *builder) finish(whole *piece) api.Graph {
	b.First, b.Last, b.Empty = whole.first.List(), whole.last.List(), whole.empty
	for _, behind := range b.follow {
		b.Follow = append(b.Follow, behind.List())
	}
	return b.Graph
}
