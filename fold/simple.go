package fold

import (
	"cmp"
	"slices"

	"riddle/api"
	"riddle/class"
)

// Simple gives a term that matches the same, made simpler.
func Simple(t api.Term) api.Term {
	var simple func(t api.Term) api.Term
	var gather func(list []api.Term, op int, kids []api.Term) []api.Term
	// gather puts kids, made simple, behind a list, and in place of one of the kind op its own kids. These go into the list at once: lists made level by level would be copied again at each level above.
	gather = func(list []api.Term, op int, kids []api.Term) []api.Term {
		for _, kid := range kids {
			if kid.Op == op {
				list = gather(list, op, kid.Kids)
				continue
			}
			kid = simple(kid)
			if kid.Op == op {
				list = append(list, kid.Kids...)
			} else {
				list = append(list, kid)
			}
		}
		return list
	}
	simple = func(t api.Term) api.Term {
		switch t.Op {
		case api.OpCat:
			return row(gather(nil, t.Op, t.Kids))
		case api.OpAlt:
			return choice(gather(nil, t.Op, t.Kids))
		}
		t.Kids = each(t.Kids, simple)
		switch {
		case t.Op == api.OpSet && t.Set == (api.Class{}):
			return api.Term{Op: api.OpNone}
		case t.Op == api.OpRep && len(t.Kids) == 1: // a term that isn't right may have no kid
			return repeat(t)
		}
		return t
	}
	return simple(t)
}

// row gives what is simple of an OpCat with these kids.
func row(kids []api.Term) api.Term {
	if slices.ContainsFunc(kids, isOp(api.OpNone)) {
		return api.Term{Op: api.OpNone}
	}
	return around(api.OpCat, slices.DeleteFunc(kids, isOp(api.OpEmpty)), api.OpEmpty)
}

// choice gives what is simple of an OpAlt with these kids.
func choice(kids []api.Term) api.Term {
	kids = slices.DeleteFunc(kids, isOp(api.OpNone))
	return around(api.OpAlt, once(joinSets(kids)), api.OpNone)
}

// repeat gives what is simple of an OpRep whose kid is simple.
func repeat(t api.Term) api.Term {
	kid := t.Kids[0]
	switch {
	case t.Max == 0 || kid.Op == api.OpEmpty:
		return api.Term{Op: api.OpEmpty}
	case kid.Op == api.OpNone && t.Min == 0:
		return api.Term{Op: api.OpEmpty}
	case kid.Op == api.OpNone || t.Min == 1 && t.Max == 1:
		return kid
	case kid.Op == api.OpRep && kid.Min == 0 && kid.Max == unbounded:
		return kid
	}
	return t
}

// isOp gives what tells whether a term is of a kind.
func isOp(op int) func(api.Term) bool {
	return func(t api.Term) bool { return t.Op == op }
}

// around gives a term of the kind op around kids; without kids one of the kind nothing, and a single kid alone.
func around(op int, kids []api.Term, nothing int) api.Term {
	switch len(kids) {
	case 0:
		return api.Term{Op: nothing}
	case 1:
		return kids[0]
	}
	return api.Term{Op: op, Kids: kids}
}

// joinSets gives a list in which all sets are one, where the first one stood.
func joinSets(list []api.Term) []api.Term {
	first := slices.IndexFunc(list, isOp(api.OpSet))
	var out []api.Term
	for i, t := range list {
		if t.Op == api.OpSet && i > first {
			out[first].Set = class.Or(out[first].Set, t.Set)
		} else {
			out = append(out, t)
		}
	}
	return out
}

// once gives a list without those that are the same as one ahead.
func once(list []api.Term) []api.Term {
	order := make([]int, len(list))
	for i := range order {
		order[i] = i
	}
	// Sorted, the same ones stand side by side, the first of them first: to hold each against each takes too long, if there are many.
	slices.SortStableFunc(order, func(i, j int) int { return compare(list[i], list[j]) })
	again := make([]bool, len(list))
	for k := 1; k < len(order); k++ {
		again[order[k]] = compare(list[order[k-1]], list[order[k]]) == 0
	}
	var out []api.Term
	for i, t := range list {
		if !again[i] {
			out = append(out, t)
		}
	}
	return out
}

// compare gives an order of terms, in which only the same ones are equal.
func compare(a, b api.Term) int {
	if a.Set != b.Set {
		return slices.Compare(a.Set[:], b.Set[:])
	}
	c := cmp.Or(cmp.Compare(a.Op, b.Op), cmp.Compare(a.Min, b.Min), cmp.Compare(a.Max, b.Max), cmp.Compare(len(a.Kids), len(b.Kids)))
	if c != 0 {
		return c
	}
	return slices.CompareFunc(a.Kids, b.Kids, compare)
}
