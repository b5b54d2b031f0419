package width_test

import (
	"math"
	"testing"

	"riddle/api"
	"riddle/sample"
	"riddle/syntax"
	"riddle/width"
)

// Short names for the terms of samples.
var (
	set, op       = sample.Set, sample.Op
	cat, alt, rep = sample.Cat, sample.Alt, sample.Rep
)

const huge = 1 << 40

// answer is what all calls say of a term.
type answer struct {
	least, most        int
	any                bool
	positions          int
	anchored, nullable bool
}

// ask gives what all calls say of a term.
func ask(t api.Term) answer {
	var a answer
	a.least, a.most, a.any = width.Span(t)
	a.positions, a.anchored, a.nullable = width.Positions(t), width.Anchored(t), width.Nullable(t)
	return a
}

// matches gives the answer for a term without anchors that matches something.
func matches(least, most, positions int) answer {
	return answer{least, most, true, positions, false, least == 0}
}

// failing gives the answer for a term without anchors that matches nothing.
func failing(positions int) answer {
	return answer{positions: positions}
}

// anchored gives an answer for a term with anchors.
func anchored(a answer) answer {
	a.anchored = true
	return a
}

// read gives the term of a pattern.
func read(t *testing.T, text string) api.Term {
	t.Helper()
	x, e, at := syntax.Parse([]byte(text))
	if e != api.OK {
		t.Fatalf("%q: %v, %d", text, e, at)
	}
	return x
}

func TestExamples(t *testing.T) {
	for text, want := range map[string]answer{"a{2,3}b*": matches(2, -1, 4), "(a|bc)?": matches(0, 2, 3)} {
		if got := ask(read(t, text)); got != want {
			t.Errorf("%q: %+v, not %+v", text, got, want)
		}
	}
}

// P7.1, P7.2, P7.3: each kind of term.
func TestKinds(t *testing.T) {
	a, none, empty := set("a"), op(api.OpNone), op(api.OpEmpty)
	for i, c := range []struct {
		t    api.Term
		want answer
	}{
		{empty, matches(0, 0, 0)},
		{none, failing(0)},
		{a, matches(1, 1, 1)},
		{set("\xff"), matches(1, 1, 1)},
		{set("abc\x00"), matches(1, 1, 1)},
		{set(""), failing(1)},
		{op(api.OpDot), matches(1, 1, 1)},
		{op(api.OpBegin), anchored(matches(0, 0, 0))},
		{op(api.OpEnd), anchored(matches(0, 0, 0))},

		{cat(a, a), matches(2, 2, 2)},
		{cat(empty, empty), matches(0, 0, 0)},
		{cat(a, none), failing(1)},
		{cat(none, a), failing(1)},
		{cat(a, set(""), a), failing(3)},
		{cat(none, rep(a, 0, -1)), failing(1)},
		{cat(rep(a, 0, -1), none), failing(1)},
		{cat(rep(a, 0, -1), a), matches(1, -1, 2)},
		{cat(a, rep(a, 0, -1)), matches(1, -1, 2)},
		{cat(rep(a, 0, -1), rep(a, 2, -1)), matches(2, -1, 3)},
		{cat(rep(a, 0, 1), rep(a, 0, 1)), matches(0, 2, 2)},

		{alt(a, a), matches(1, 1, 2)},
		{alt(a, empty), matches(0, 1, 1)},
		{alt(empty, a), matches(0, 1, 1)},
		{alt(none, none), failing(0)},
		{alt(none, cat(a, a)), matches(2, 2, 2)},
		{alt(cat(a, a), none), matches(2, 2, 2)},
		{alt(set(""), cat(a, a), set("")), matches(2, 2, 4)},
		{alt(set(""), rep(none, 1, 2)), failing(1)},
		{alt(none, empty), matches(0, 0, 0)},
		{alt(rep(a, 3, -1), a), matches(1, -1, 4)},
		{alt(a, rep(a, 3, -1)), matches(1, -1, 4)},
		{alt(rep(a, 3, 5), rep(a, 2, 4)), matches(2, 5, 9)},
	} {
		if got := ask(c.t); got != c.want {
			t.Errorf("%d: %v: %+v, not %+v", i, c.t, got, c.want)
		}
	}
}

// P7.3: anchors are met wherever they stand, in what matches nothing too.
func TestAnchors(t *testing.T) {
	a := set("a")
	for _, anchor := range []api.Term{op(api.OpBegin), op(api.OpEnd)} {
		for i, x := range []api.Term{anchor, cat(anchor, a), cat(a, anchor), alt(anchor, a), alt(a, a, anchor), rep(anchor, 0, 0), rep(anchor, 2, -1), cat(op(api.OpNone), anchor), cat(a, alt(a, rep(cat(a, anchor), 0, 1)), a)} {
			if !width.Anchored(x) {
				t.Errorf("%d: %v isn't anchored", i, x)
			}
		}
		// An anchor counts as nothing between.
		if got, want := ask(cat(anchor, rep(alt(anchor, a), 2, 3))), anchored(matches(0, 3, 3)); got != want {
			t.Errorf("%+v, not %+v", got, want)
		}
	}
	for i, x := range []api.Term{a, op(api.OpEmpty), op(api.OpNone), op(api.OpDot), set("^$"), cat(a, a), alt(a, rep(op(api.OpDot), 0, -1))} {
		if width.Anchored(x) {
			t.Errorf("%d: %v is anchored", i, x)
		}
	}
}

// P1: terms that aren't right; nothing is asked but that all calls end.
func TestWrong(t *testing.T) {
	a := set("a")
	numbers := []int{math.MinInt, math.MinInt + 1, -huge, -2, -1, 0, 1, 201, huge, math.MaxInt - 1, math.MaxInt}
	var wrong []api.Term
	for _, n := range numbers {
		wrong = append(wrong, op(n), api.Term{Op: n, Min: n, Max: n, Set: api.Class{1}, Kids: []api.Term{a, {}}})
		for _, m := range numbers {
			wrong = append(wrong, rep(a, n, m), rep(rep(rep(a, n, m), m, n), n, m), rep(rep(a, n, 3), 2, m))
		}
	}
	for kind := range api.OpNone + 2 {
		wrong = append(wrong, op(kind), api.Term{Op: kind, Kids: []api.Term{a}}, api.Term{Op: kind, Min: -3, Max: -2, Kids: []api.Term{{}, a, op(api.OpRep)}})
	}
	for _, x := range wrong {
		ask(x)
		ask(cat(a, x))
		ask(alt(x, x))
		ask(rep(x, 2, 3))
	}
}

// P1: terms of many parts, and of many levels, end soon.
func TestGreat(t *testing.T) {
	a, n := set("a"), 1<<16
	for i, c := range []struct {
		t    api.Term
		want answer
	}{
		{cat(sample.Many(a, n)...), matches(n, n, n)},
		{alt(sample.Many(a, n)...), matches(1, 1, n)},
		{sample.Nest(a, n, func(x api.Term) api.Term { return cat(a, x) }), matches(n+1, n+1, n+1)},
		{sample.Nest(a, n, func(x api.Term) api.Term { return alt(x, a) }), matches(1, 1, n+1)},
		{sample.Nest(a, n, func(x api.Term) api.Term { return rep(x, 1, 1) }), matches(1, 1, 1)},
		{sample.Nest(op(api.OpEnd), n, func(x api.Term) api.Term { return rep(x, 0, -1) }), anchored(matches(0, 0, 0))},
		{sample.Nest(a, n, func(x api.Term) api.Term { return rep(x, 2, 3) }), matches(huge, huge, huge)},
	} {
		if got := ask(c.t); got != c.want {
			t.Errorf("%d: %+v, not %+v", i, got, c.want)
		}
	}
}
