package trim

import (
	"riddle/api"
	"riddle/marks"
)

// draft is a graph that is being made smaller: of its positions those that are kept count, by their old numbers till the end.
type draft struct {
	api.Graph
	kept, first, last marks.Set
	follow            []marks.Set
}

// way is how a position goes on.
type way struct {
	set    api.Class
	follow marks.Set
	last   bool
}

// newDraft gives a graph with all its positions kept.
func newDraft(g api.Graph) *draft {
	d := &draft{Graph: g, first: marks.Of(g.First), last: marks.Of(g.Last)}
	for p, list := range g.Follow {
		d.kept.Add(p)
		d.follow = append(d.follow, marks.Of(list))
	}
	return d
}

// dropEmpty drops the positions whose sets have no bytes.
func (d *draft) dropEmpty() {
	for p, set := range d.Sets {
		if set == (api.Class{}) {
			d.kept.Drop(p)
		}
	}
}

// way tells how a position goes on.
func (d *draft) way(p int) way {
	return way{d.Sets[p], d.follow[p], d.last.Has(p)}
}

// merge drops a position, for which another one stands from now on. (Of Last that one needn't be made: both are, or neither.)
func (d *draft) merge(p, q int) {
	d.kept.Drop(q)
	rename(&d.first, p, q)
	for i := range d.follow {
		rename(&d.follow[i], p, q)
	}
}

// rename puts one position in the place of another one, if that is in a set.
func rename(s *marks.Set, p, q int) {
	if s.Has(q) {
		s.Drop(q)
		s.Add(p)
	}
}

// finish gives the graph of the positions that are kept, numbered anew.
func (d *draft) finish() api.Graph {
	number := make([]int, len(d.Sets))
	out := api.Graph{Empty: d.Empty}
	for p := range d.kept.Each {
		number[p] = len(out.Sets)
		out.Sets = append(out.Sets, d.Sets[p])
	}
	renumbered := func(s marks.Set) []int {
		var list []int
		for p := range s.And(d.kept).Each {
			list = append(list, number[p])
		}
		return list
	}
	out.First, out.Last = renumbered(d.first), renumbered(d.last)
	for p := range d.kept.Each {
		out.Follow = append(out.Follow, renumbered(d.follow[p]))
	}
	return out
}
