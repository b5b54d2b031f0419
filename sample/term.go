package sample

import (
	"math"

	"riddle/api"
	"riddle/syntax"
	"riddle/width"
)

// TermOf gives the term of a pattern, by layer 5. It panics where there is none.
func TermOf(pattern string) api.Term {
	t, code, _ := syntax.Parse([]byte(pattern))
	if code != api.OK {
		panic(pattern)
	}
	return t
}

// Free gives a term as Grow does, without anchors.
func Free(pick func(n int) int, levels int) api.Term {
	for {
		if t := Grow(pick, levels); !width.Anchored(t) {
			return t
		}
	}
}

// WrongTerms gives terms that aren't right, for all reasons, and such as are so by what stands in them.
func WrongTerms() []api.Term {
	a := Set("a")
	var out []api.Term
	for _, n := range []int{math.MinInt, -1000, -2, 201, 1000, math.MaxInt} {
		out = append(out, Op(n), api.Term{Op: n, Min: n, Max: n, Set: a.Set, Kids: []api.Term{a, {}, a}}, Rep(a, n, n), Rep(Rep(a, 1, n), n, 1), Rep(a, 0, n), Rep(a, 5, n), Rep(a, n, 5), Rep(a, n, -1), Rep(Op(api.OpEmpty), n, n), Rep(Op(api.OpDot), n, 1))
	}
	out = append(out, Op(0), Op(-1), Op(api.OpNone+1), Rep(a, -1, -1), Rep(a, 2, 1), Rep(a, 1, 0), Rep(a, 200, 199), Cat(), Cat(a), Alt(), Alt(a), Op(api.OpRep))
	for kind := api.OpEmpty; kind <= api.OpNone; kind++ {
		out = append(out, api.Term{Op: kind, Set: a.Set, Kids: []api.Term{a}}, api.Term{Op: kind, Min: 1, Max: 1, Kids: []api.Term{a, {}}}, api.Term{Op: kind, Max: -1, Kids: []api.Term{a, Op(api.OpRep), Op(kind)}}, api.Term{Op: kind, Max: 1, Kids: []api.Term{{Op: api.OpSet, Set: a.Set, Max: 3}}}, api.Term{Op: kind, Max: 1, Kids: []api.Term{{Op: api.OpSet, Set: a.Set, Kids: []api.Term{Op(api.OpBegin)}}}})
	}
	for _, t := range out {
		out = append(out, Cat(t, a, a), Cat(a, a, t), Rep(t, 0, -1), Rep(Cat(t, t), 3, 5), Rep(t, 200, 200), Alt(t, t, a))
	}
	return out
}
