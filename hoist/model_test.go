package hoist_test

import (
	"riddle/api"
	"riddle/sample"
)

// Short names for the terms of samples.
var (
	set, op       = sample.Set, sample.Op
	cat, alt, rep = sample.Cat, sample.Alt, sample.Rep
)

// The parts, in the document's order.
const (
	n = 0
	b = 1
	e = 2
	w = 3
)

// four is the parts of a term.
type four = [4]api.Term

// nothing gives parts that are all OpNone.
func nothing() four {
	none := op(api.OpNone)
	return four{none, none, none, none}
}

// just gives parts of which one is told.
func just(which int, t api.Term) four {
	out := nothing()
	out[which] = t
	return out
}

// same tells whether two lists of parts are one.
func same(x, y four) bool {
	return sample.Same(x[n], y[n]) && sample.Same(x[b], y[b]) && sample.Same(x[e], y[e]) && sample.Same(x[w], y[w])
}

// null tells by the document's words whether a term matches nothing between; anchors count as OpEmpty.
func null(t api.Term) bool {
	switch t.Op {
	case api.OpEmpty, api.OpBegin, api.OpEnd:
		return true
	case api.OpRep:
		return t.Min == 0 || null(t.Kids[0])
	case api.OpCat, api.OpAlt:
		for _, kid := range t.Kids {
			if null(kid) == (t.Op == api.OpAlt) {
				return t.Op == api.OpAlt
			}
		}
		return t.Op == api.OpCat
	}
	return false
}

// anchored tells whether an anchor stands in a term.
func anchored(t api.Term) bool {
	for _, kid := range t.Kids {
		if anchored(kid) {
			return true
		}
	}
	return t.Op == api.OpBegin || t.Op == api.OpEnd
}

func modelCat(x, y api.Term) api.Term {
	if x.Op == api.OpNone || y.Op == api.OpNone {
		return op(api.OpNone)
	}
	if x.Op == api.OpEmpty {
		return y
	}
	if y.Op == api.OpEmpty {
		return x
	}
	return cat(x, y)
}

func modelAlt(x, y api.Term) api.Term {
	if x.Op == api.OpNone {
		return y
	}
	if y.Op == api.OpNone {
		return x
	}
	return alt(x, y)
}

func modelStar(x api.Term) api.Term {
	if x.Op == api.OpNone || x.Op == api.OpEmpty {
		return op(api.OpEmpty)
	}
	return rep(x, 0, -1)
}

func modelPlus(x api.Term) api.Term {
	if x.Op == api.OpNone || x.Op == api.OpEmpty {
		return x
	}
	return rep(x, 1, -1)
}

// modelJoin tells by the document's words the parts of terms one behind the other.
func modelJoin(x, y four) four {
	out := four{modelCat(x[n], y[n]), modelCat(x[b], y[n]), modelCat(x[n], y[e]), modelCat(x[b], y[e])}
	if null(x[n]) || null(x[b]) {
		out[b] = modelAlt(out[b], y[b])
	}
	if null(y[n]) || null(y[e]) {
		out[e] = modelAlt(out[e], x[e])
		out[w] = modelAlt(out[w], x[w])
	}
	if null(x[n]) || null(x[b]) {
		out[w] = modelAlt(out[w], y[w])
	}
	if (null(x[e]) || null(x[w])) && (null(y[b]) || null(y[w])) {
		out[w] = modelAlt(out[w], op(api.OpEmpty))
	}
	return out
}

// model tells by the document's words the parts of a term, and whether it has any.
func model(t api.Term) (four, bool) {
	if !anchored(t) {
		return just(n, t), true
	}
	var kids []four
	for _, kid := range t.Kids {
		p, ok := model(kid)
		if !ok {
			return four{}, false
		}
		kids = append(kids, p)
	}
	switch t.Op {
	case api.OpBegin:
		return just(b, op(api.OpEmpty)), true
	case api.OpEnd:
		return just(e, op(api.OpEmpty)), true
	case api.OpCat:
		out := just(n, op(api.OpEmpty))
		for _, p := range kids {
			out = modelJoin(out, p)
		}
		return out, true
	case api.OpAlt:
		out := nothing()
		for _, p := range kids {
			for i := range out {
				out[i] = modelAlt(out[i], p[i])
			}
		}
		return out, true
	}
	return modelRep(kids[0], t.Min, t.Max)
}

// modelRep tells by the document's words the parts of a repeat.
func modelRep(p four, least, most int) (four, bool) {
	switch [2]int{least, most} {
	case [2]int{0, 0}:
		return just(n, op(api.OpEmpty)), true
	case [2]int{1, 1}:
		return p, true
	case [2]int{0, 1}:
		return four{modelAlt(op(api.OpEmpty), p[n]), p[b], p[e], p[w]}, true
	case [2]int{0, -1}, [2]int{1, -1}:
		star := modelStar(p[n])
		out := four{star, modelCat(p[b], star), modelCat(star, p[e]), modelAlt(p[w], modelCat(modelCat(p[b], star), p[e]))}
		if least == 1 {
			out[n] = modelPlus(p[n])
		}
		return out, true
	}
	return four{}, false
}
