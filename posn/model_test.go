package posn_test

import (
	"slices"

	"riddle/api"
	"riddle/sample"
)

// Short names for the terms of samples.
var (
	set, op       = sample.Set, sample.Op
	cat, alt, rep = sample.Cat, sample.Alt, sample.Rep
)

// laid gives a term laid out by the document's words: it has no repeats but x?, x* and x+.
func laid(t api.Term) api.Term {
	var kids []api.Term
	for _, kid := range t.Kids {
		kids = append(kids, laid(kid))
	}
	switch t.Op {
	case api.OpCat:
		return cat(kids...)
	case api.OpAlt:
		return alt(kids...)
	case api.OpNone:
		return alt()
	case api.OpRep:
		return laidRepeat(kids[0], t.Min, t.Max)
	}
	return t
}

// laidRepeat gives a repeat laid out, its kid being so.
func laidRepeat(x api.Term, m, n int) api.Term {
	switch {
	case n == 0:
		return op(api.OpEmpty)
	case n == -1 && m == 0:
		return rep(x, 0, -1)
	case n == -1:
		return cat(append(sample.Many(x, m-1), rep(x, 1, -1))...)
	case n == m:
		return cat(sample.Many(x, m)...)
	}
	within := rep(x, 0, 1)
	for range n - m - 1 {
		within = rep(cat(x, within), 0, 1)
	}
	return cat(append(sample.Many(x, m), within)...)
}

// model gives the graph of a term by the document's words.
func model(t api.Term) api.Graph {
	var m modeller
	p := m.of(laid(t))
	g := api.Graph{Sets: m.sets, First: sorted(p.first), Last: sorted(p.last), Empty: p.empty}
	for at := range m.sets {
		g.Follow = append(g.Follow, sorted(m.follow[at]))
	}
	return g
}

// modeller has the positions that were met, and which follow each.
type modeller struct {
	sets   []api.Class
	follow [][]int
}

// modelled is what a term that was laid out has.
type modelled struct {
	first, last []int
	empty       bool
}

// of gives what a term that was laid out has.
func (m *modeller) of(t api.Term) modelled {
	var kids []modelled
	switch t.Op {
	case api.OpEmpty:
		return modelled{empty: true}
	case api.OpDot:
		all := ""
		for b := range 256 {
			if b != 10 {
				all += string([]byte{byte(b)})
			}
		}
		return m.of(set(all))
	case api.OpSet:
		m.sets, m.follow = append(m.sets, t.Set), append(m.follow, nil)
		only := []int{len(m.sets) - 1}
		return modelled{first: only, last: only}
	}
	for _, kid := range t.Kids {
		kids = append(kids, m.of(kid))
	}
	switch t.Op {
	case api.OpAlt:
		var out modelled
		for _, kid := range kids {
			out.first, out.last, out.empty = slices.Concat(out.first, kid.first), slices.Concat(out.last, kid.last), out.empty || kid.empty
		}
		return out
	case api.OpRep:
		x := kids[0]
		if t.Max == -1 {
			m.join(x.last, x.first)
		}
		return modelled{x.first, x.last, x.empty || t.Min == 0}
	}
	return m.row(kids)
}

// row gives what terms one behind the other have.
func (m *modeller) row(kids []modelled) modelled {
	out := modelled{empty: true}
	for i, kid := range kids {
		for _, next := range kids[i+1:] {
			m.join(kid.last, next.first)
			if !next.empty {
				break
			}
		}
		out.empty = out.empty && kid.empty
	}
	for _, kid := range kids {
		out.first = slices.Concat(out.first, kid.first)
		if !kid.empty {
			break
		}
	}
	for _, kid := range slices.Backward(kids) {
		out.last = slices.Concat(out.last, kid.last)
		if !kid.empty {
			break
		}
	}
	return out
}

// join lets positions follow others.
func (m *modeller) join(last, first []int) {
	for _, p := range last {
		m.follow[p] = slices.Concat(m.follow[p], first)
	}
}

// sorted gives a list rising, each number once.
func sorted(list []int) []int {
	list = slices.Clone(list)
	slices.Sort(list)
	return slices.Compact(list)
}

// ends gives the ends of what a graph matches from a place on, row by row of positions.
func ends(g api.Graph, w []byte, i int) []int {
	var out []int
	if g.Empty {
		out = append(out, i)
	}
	tried := map[[2]int]bool{}
	var row func(list []int, j int)
	row = func(list []int, j int) {
		for _, p := range list {
			if j >= len(w) || tried[[2]int{p, j}] || g.Sets[p][w[j]/64]>>(w[j]%64)&1 == 0 {
				continue
			}
			tried[[2]int{p, j}] = true
			if slices.Contains(g.Last, p) {
				out = append(out, j+1)
			}
			row(g.Follow[p], j+1)
		}
	}
	row(g.First, i)
	return sorted(out)
}
