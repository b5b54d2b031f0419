package fold_test

import (
	"math/rand"
	"slices"
	"testing"

	"riddle/api"
	"riddle/fold"
	"riddle/sample"
	"riddle/syntax"
)

// gives holds what Simple gives, and what it gives of that, against a term.
func gives(t *testing.T, x, want api.Term) {
	t.Helper()
	got := fold.Simple(x)
	if !sample.Same(got, want) {
		t.Errorf("%v: %v, not %v", x, got, want)
	}
	if again := fold.Simple(got); !sample.Same(again, got) {
		t.Errorf("%v: %v, and of that %v", x, got, again)
	}
}

// read gives the term of a pattern.
func read(t *testing.T, text string) api.Term {
	t.Helper()
	x, e, at := syntax.Parse([]byte(text))
	if e != api.OK {
		t.Fatalf("%q: %v, %d", text, e, at)
	}
	return x
}

func TestExamples(t *testing.T) {
	gives(t, read(t, "(a|b|)()"), alt(set("ab"), op(api.OpEmpty)))
	gives(t, read(t, "a[b-a]|c"), set("c"))
	gives(t, read(t, "(a*)+"), rep(set("a"), 0, -1))
}

// P8.2: what stays as it is.
func TestStays(t *testing.T) {
	a, b, empty := set("a"), set("b"), op(api.OpEmpty)
	for _, x := range []api.Term{
		empty, op(api.OpDot), op(api.OpBegin), op(api.OpEnd), op(api.OpNone), a, set("\x00"), set("\xff"), set("abc"),
		cat(a, b), cat(a, a), cat(op(api.OpBegin), op(api.OpBegin)), cat(alt(a, empty), b), cat(op(api.OpDot), rep(a, 0, 1)),
		alt(a, empty), alt(empty, a), alt(a, op(api.OpDot)), alt(op(api.OpBegin), op(api.OpEnd)), alt(cat(a, b), cat(b, a)), alt(cat(a, b), cat(a, b, a)), alt(cat(a, b), cat(a, set("c"))),
		alt(rep(a, 0, 1), rep(a, 0, 2)), alt(rep(a, 0, 2), rep(a, 1, 2)), alt(rep(a, 0, 1), rep(b, 0, 1)), alt(cat(a, b, rep(a, 2, 3)), cat(a, b, rep(a, 2, 4))), alt(a, rep(a, 2, 2)),
		rep(a, 0, 1), rep(a, 1, -1), rep(a, 0, -1), rep(a, 1, 2), rep(a, 2, 2), rep(a, 0, 200), rep(a, 200, 200), rep(op(api.OpBegin), 1, -1), rep(op(api.OpEnd), 0, 2),
		rep(rep(a, 1, -1), 0, -1), rep(rep(a, 0, 1), 0, -1), rep(rep(a, 0, 200), 2, 3), rep(rep(a, 2, -1), 2, 2), rep(alt(rep(a, 0, -1), empty), 0, -1), rep(cat(rep(a, 0, -1), b), 0, -1),
	} {
		gives(t, x, x)
	}
}

// P8.2: OpSet and OpCat.
func TestCat(t *testing.T) {
	a, b, c, empty, none := set("a"), set("b"), set("c"), op(api.OpEmpty), op(api.OpNone)
	gives(t, set(""), none)
	gives(t, cat(a, none), none)
	gives(t, cat(none, a), none)
	gives(t, cat(empty, set("")), none)
	gives(t, cat(a, cat(b, none)), none)
	gives(t, cat(rep(a, 0, -1), b, rep(none, 1, 1)), none)
	gives(t, cat(empty, empty), empty)
	gives(t, cat(empty, a), a)
	gives(t, cat(a, empty), a)
	gives(t, cat(a, empty, b), cat(a, b))
	gives(t, cat(empty, a, empty, empty, a, empty), cat(a, a))
	gives(t, cat(cat(a, b), c), cat(a, b, c))
	gives(t, cat(a, cat(b, c)), cat(a, b, c))
	gives(t, cat(cat(a, cat(b, empty)), cat(cat(empty, empty), cat(c, a)), b), cat(a, b, c, a, b))
	gives(t, cat(empty, cat(a, b)), cat(a, b))
	gives(t, cat(c, alt(none, cat(a, b)), c), cat(c, a, b, c))
	gives(t, cat(c, rep(cat(a, b), 1, 1), rep(cat(a, b), 1, 2)), cat(c, a, b, rep(cat(a, b), 1, 2)))
	gives(t, cat(a, rep(none, 0, 1), b), cat(a, b))
	gives(t, cat(a, alt(b, c)), cat(a, set("bc")))
	gives(t, cat(empty, alt(b, op(api.OpDot))), alt(b, op(api.OpDot)))
}

// P8.2: OpAlt.
func TestAlt(t *testing.T) {
	a, b, c, empty, none, dot := set("a"), set("b"), set("c"), op(api.OpEmpty), op(api.OpNone), op(api.OpDot)
	ab := cat(a, b)
	gives(t, alt(none, none), none)
	gives(t, alt(set(""), cat(a, none)), none)
	gives(t, alt(none, a), a)
	gives(t, alt(ab, none), ab)
	gives(t, alt(empty, empty), empty)
	gives(t, alt(a, none, dot), alt(a, dot))
	gives(t, alt(a, b), set("ab"))
	gives(t, alt(a, a), a)
	gives(t, alt(set("ab"), set("bc"), set("\xff")), set("abc\xff"))
	gives(t, alt(dot, b, empty, a, ab, c), alt(dot, set("abc"), empty, ab))
	gives(t, alt(dot, a, alt(b, dot), c), alt(dot, set("abc")))
	gives(t, alt(ab, ab), ab)
	gives(t, alt(ab, empty, ab, empty, dot, ab), alt(ab, empty, dot))
	gives(t, alt(alt(ab, a), alt(dot, alt(b, ab))), alt(ab, set("ab"), dot))
	gives(t, alt(dot, alt(dot, alt(empty, a)), b), alt(dot, empty, set("ab")))
	gives(t, alt(rep(alt(dot, a), 1, 1), b), alt(dot, set("ab")))
	gives(t, alt(cat(alt(dot, a), empty), dot, b), alt(dot, set("ab")))
	// What is the same only when it is simple.
	gives(t, alt(cat(a, empty, b), cat(cat(a, b), empty), rep(ab, 1, 1)), ab)
	gives(t, alt(cat(a, alt(b, c)), cat(a, alt(c, b))), cat(a, set("bc")))
	gives(t, alt(op(api.OpBegin), op(api.OpEnd), op(api.OpBegin)), alt(op(api.OpBegin), op(api.OpEnd)))
	gives(t, alt(rep(a, 2, 3), rep(a, 3, 3), rep(a, 2, 3), rep(a, 2, -1)), alt(rep(a, 2, 3), rep(a, 3, 3), rep(a, 2, -1)))
	// Sets go where the first one stood, though that had no byte of the others.
	gives(t, alt(empty, set(""), dot, a, ab, b), alt(empty, dot, set("ab"), ab))
}

// P8.2: OpRep, each rule, and which one goes ahead.
func TestRep(t *testing.T) {
	a, empty, none := set("a"), op(api.OpEmpty), op(api.OpNone)
	for _, kid := range []api.Term{a, empty, none, set(""), op(api.OpBegin), rep(a, 0, -1), cat(a, a)} {
		gives(t, rep(kid, 0, 0), empty)
	}
	for _, c := range [][2]int{{0, 1}, {0, -1}, {0, 200}, {1, 1}, {1, -1}, {2, 3}, {200, 200}} {
		least, most := c[0], c[1]
		gives(t, rep(empty, least, most), empty)
		gives(t, rep(cat(empty, rep(a, 0, 0)), least, most), empty)
		want := none
		if least == 0 {
			want = empty
		}
		gives(t, rep(none, least, most), want)
		gives(t, rep(set(""), least, most), want)
		gives(t, rep(cat(a, none), least, most), want)
		gives(t, rep(rep(a, 0, -1), least, most), rep(a, 0, -1))
		gives(t, rep(rep(rep(rep(a, 1, 1), 0, -1), 2, 2), least, most), rep(a, 0, -1))
	}
	for _, kid := range []api.Term{a, op(api.OpDot), op(api.OpEnd), cat(a, a), alt(a, empty), rep(a, 1, -1), rep(a, 0, 200), rep(a, 2, 2)} {
		gives(t, rep(kid, 1, 1), kid)
		gives(t, rep(rep(kid, 1, 1), 1, 1), kid)
		gives(t, rep(rep(kid, 1, 1), 2, 3), rep(kid, 2, 3))
	}
}

// model gives by the document's words what is simple of a term, one step after the other.
func model(t api.Term) api.Term {
	var kids []api.Term
	for _, kid := range t.Kids {
		kids = append(kids, model(kid))
	}
	switch {
	case t.Op == api.OpSet && t.Set == api.Class{}:
		return op(api.OpNone)
	case t.Op == api.OpCat:
		for _, kid := range kids {
			if kid.Op == api.OpNone {
				return op(api.OpNone)
			}
		}
		return left(api.OpCat, api.OpEmpty, kids)
	case t.Op == api.OpAlt:
		return left(api.OpAlt, api.OpNone, kids)
	case t.Op == api.OpRep:
		return modelRep(t, kids[0])
	}
	return t
}

// left gives what is left of an OpCat or OpAlt with simple kids; those of the kind drop go.
func left(kind, drop int, kids []api.Term) api.Term {
	var flat, list []api.Term
	for _, kid := range kids {
		if kid.Op == kind {
			flat = append(flat, kid.Kids...)
		} else if kid.Op != drop {
			flat = append(flat, kid)
		}
	}
	var bytes api.Class
	for _, kid := range flat {
		for i := range bytes {
			bytes[i] |= kid.Set[i]
		}
	}
	for _, kid := range flat {
		if kind == api.OpAlt && kid.Op == api.OpSet {
			kid.Set = bytes
		}
		isSame := func(other api.Term) bool { return sample.Same(kid, other) }
		if kind == api.OpCat || !slices.ContainsFunc(list, isSame) {
			list = append(list, kid)
		}
	}
	switch len(list) {
	case 0:
		return op(drop)
	case 1:
		return list[0]
	}
	return api.Term{Op: kind, Kids: list}
}

func modelRep(t, kid api.Term) api.Term {
	if t.Max == 0 || kid.Op == api.OpEmpty {
		return op(api.OpEmpty)
	}
	if kid.Op == api.OpNone {
		if t.Min == 0 {
			return op(api.OpEmpty)
		}
		return op(api.OpNone)
	}
	if t.Min == 1 && t.Max == 1 || kid.Op == api.OpRep && kid.Min == 0 && kid.Max == -1 {
		return kid
	}
	return rep(kid, t.Min, t.Max)
}

// P8.2 and P8.3: grown terms against the model, and made simple again.
func TestGrown(t *testing.T) {
	r := rand.New(rand.NewSource(4))
	kinds := map[int]int{}
	for i := range 60000 {
		x := sample.Grow(r.Intn, 2+i%5)
		want := model(x)
		gives(t, x, want)
		if !sample.Same(x, want) {
			kinds[want.Op]++
		}
	}
	for _, kind := range []int{api.OpEmpty, api.OpNone, api.OpSet, api.OpCat, api.OpAlt, api.OpRep} {
		if kinds[kind] < 100 {
			t.Errorf("too few terms of a kind: %v", kinds)
		}
	}
}

// P8.2 and P8.3: many kids, of which some are the same.
func TestWide(t *testing.T) {
	r := rand.New(rand.NewSource(5))
	for range 300 {
		var kids []api.Term
		for range 2 + r.Intn(200) {
			kids = append(kids, sample.Grow(r.Intn, 1+r.Intn(3)))
		}
		gives(t, alt(kids...), model(alt(kids...)))
		kids = slices.DeleteFunc(kids, func(kid api.Term) bool { return model(kid).Op == api.OpNone })
		x := cat(append(kids, op(api.OpEmpty), op(api.OpEmpty))...)
		gives(t, x, model(x))
	}
}

// P1 and P8.2: terms of many parts, and of many levels, end soon.
func TestGreat(t *testing.T) {
	a, empty, n := set("a"), op(api.OpEmpty), 1<<16
	gives(t, cat(sample.Many(a, n)...), cat(sample.Many(a, n)...))
	gives(t, cat(sample.Many(empty, n)...), empty)
	gives(t, alt(sample.Many(a, n)...), a)
	gives(t, alt(sample.Many(cat(a, a), n)...), cat(a, a))
	gives(t, sample.Nest(a, n, func(x api.Term) api.Term { return cat(x, a) }), cat(sample.Many(a, n+1)...))
	gives(t, sample.Nest(a, n, func(x api.Term) api.Term { return cat(a, x) }), cat(sample.Many(a, n+1)...))
	gives(t, sample.Nest(a, n, func(x api.Term) api.Term { return rep(x, 1, 1) }), a)
	gives(t, sample.Nest(a, n, func(x api.Term) api.Term { return rep(x, 0, -1) }), rep(a, 0, -1))
	// Kids that are all others, one beside the other, and within one another.
	var kids []api.Term
	for i := range n {
		kids = append(kids, rep(cat(rep(a, 2, 2+i%199), a), 2, 2+i/199%199), cat(a, empty, rep(a, 2, 2+i%199), rep(a, 2, 2+i/199%199)))
	}
	x := fold.Simple(alt(kids...))
	if len(x.Kids) != 2*199*199 {
		t.Errorf("%d kids", len(x.Kids))
	}
	left, right := kids[0], kids[0]
	for _, kid := range kids[1 : n/2] {
		left, right = alt(left, kid), alt(kid, right)
	}
	if x, y := fold.Simple(left), fold.Simple(right); len(x.Kids) != n/2 || len(y.Kids) != n/2 {
		t.Errorf("%d and %d kids", len(x.Kids), len(y.Kids))
	}
	// Levels between which nothing can be left out.
	y := sample.Nest(a, n/2, func(x api.Term) api.Term { return cat(alt(x, empty), a) })
	gives(t, y, y)
	if x, e := fold.Resolve(y, api.FlagFold); e != api.OK || !sample.Same(fold.Simple(x), x) {
		t.Errorf("resolved: %v", e)
	}
}

// P8.3: what is simple matches the same.
func TestMatches(t *testing.T) {
	r := rand.New(rand.NewSource(6))
	some := 0
	for range 20000 {
		x := sample.Grow(r.Intn, 5)
		y := fold.Simple(x)
		for range 8 {
			var w []byte
			for range r.Intn(7) {
				w = append(w, "abAB\n1\xff"[r.Intn(7)])
			}
			one, two := sample.Match(x, string(w)), sample.Match(y, string(w))
			if one != two {
				t.Fatalf("%v in %q: %v, but %v of %v", x, w, one, two, y)
			}
			if one != (sample.Ends{}) {
				some++
			}
		}
	}
	if some < 1000 {
		t.Errorf("only %d matches", some)
	}
}
