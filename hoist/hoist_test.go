package hoist_test

import (
	"fmt"
	"math"
	"math/rand"
	"reflect"
	"testing"

	"riddle/api"
	"riddle/hoist"
	"riddle/sample"
	"riddle/syntax"
)

// read gives the term of a pattern.
func read(t *testing.T, text string) api.Term {
	t.Helper()
	x, code, at := syntax.Parse([]byte(text))
	if code != api.OK {
		t.Fatalf("%q: %v, %d", text, code, at)
	}
	return x
}

// gives holds the parts of a term against some.
func gives(t *testing.T, x api.Term, want four) {
	t.Helper()
	if got, code := hoist.Hoist(x); code != api.OK || !same(got, want) {
		t.Errorf("%.300s: %.1000s, %v, not %.1000s", fmt.Sprint(x), fmt.Sprint(got), code, fmt.Sprint(want))
	}
}

// refuses holds that a term has no parts.
func refuses(t *testing.T, x api.Term) {
	t.Helper()
	if got, code := hoist.Hoist(x); code != api.ErrRepeat || !reflect.DeepEqual(got, four{}) {
		t.Errorf("%v: %v, %v", x, got, code)
	}
}

func TestExamples(t *testing.T) {
	none := op(api.OpNone)
	gives(t, read(t, "^a|b$"), four{none, set("a"), set("b"), none})
	gives(t, read(t, "(^|a)b"), four{cat(set("a"), set("b")), set("b"), none, none})
	gives(t, read(t, "a*^b"), just(b, set("b")))
}

// P9.1: terms without anchors stay as they are, whatever stands in them.
func TestWithout(t *testing.T) {
	a, none, empty := set("a"), op(api.OpNone), op(api.OpEmpty)
	for _, x := range []api.Term{
		empty, none, op(api.OpDot), a, set(""), cat(a, none), cat(empty, a), cat(a, a, a), cat(cat(a, a), a), cat(empty, empty),
		alt(none, a), alt(a, a, empty), alt(empty, empty), rep(a, 0, 0), rep(a, 1, 1), rep(a, 0, 1), rep(a, 0, -1), rep(a, 1, -1),
		rep(a, 2, 3), rep(a, 200, 200), rep(a, 2, -1), rep(none, 0, -1), rep(empty, 1, -1), rep(rep(a, 0, 2), 3, 3),
	} {
		gives(t, x, just(n, x))
		gives(t, alt(x, op(api.OpBegin)), four{x, empty, none, none})
		gives(t, alt(op(api.OpEnd), x), four{x, none, empty, none})
		gives(t, rep(op(api.OpBegin), 0, 0), just(n, empty))
	}
}

// P9.1: cats and alts of anchors, told by hand.
func TestRows(t *testing.T) {
	x, y, z, none, empty := set("x"), set("y"), set("z"), op(api.OpNone), op(api.OpEmpty)
	maybe := rep(x, 0, 1)
	for text, want := range map[string]four{
		"^":          just(b, empty),
		"$":          just(e, empty),
		"^^":         just(b, empty),
		"$$":         just(e, empty),
		"^$":         just(w, empty),
		"$^":         just(w, empty),
		"^$^":        just(w, empty),
		"$^$":        just(w, empty),
		"x^":         nothing(),
		"$x":         nothing(),
		"^x^":        nothing(),
		"^xyz":       just(b, cat(cat(x, y), z)),
		"xyz$":       just(e, cat(cat(x, y), z)),
		"^xyz$":      just(w, cat(cat(x, y), z)),
		"^(xyz)":     just(b, cat(x, y, z)),
		"x?^":        just(b, empty),
		"x?^y":       just(b, y),
		"$x?":        just(e, empty),
		"y$x?":       just(e, y),
		"^x?^y":      just(b, y),
		"^x?$":       just(w, maybe),
		"^x?$x?":     just(w, maybe),
		"y$x?$":      just(e, y),
		"^y$x?$":     just(w, y),
		"x?^y$":      just(w, y),
		"x?^y$x?":    just(w, y),
		"(^y$|z)x?":  {cat(z, maybe), none, none, y},
		"x?(^y$|z)":  {cat(maybe, z), none, none, y},
		"(^y$|z)x":   just(n, cat(z, x)),
		"x(^y$|z)":   just(n, cat(x, z)),
		"(^|x)(^|y)": {cat(x, y), alt(y, empty), none, none},
		"(x|$)(y|$)": {cat(x, y), none, alt(x, empty), none},
		"(x|^)(y|$)": {cat(x, y), y, x, empty},
		"(x|$)(y|^)": {cat(x, y), none, none, empty},
		"(y|z)x|^":   {cat(alt(y, z), x), empty, none, none},
		"^x|^y|^z":   just(b, alt(alt(x, y), z)),
		"x$|y$|z$":   just(e, alt(alt(x, y), z)),
		"^x$|^y$|^$": just(w, alt(alt(x, y), empty)),
		"x|y|z|^":    {alt(alt(x, y), z), empty, none, none},
		"^|^":        just(b, alt(empty, empty)),
		"x^|y":       just(n, y),
		"x^|$y":      nothing(),
		"x^*":        just(n, x),
		"x^{0}y":     just(n, cat(x, y)),
		"x^?y":       just(n, cat(x, y)),
		"^?y":        {y, y, none, none},
		"x$?":        {x, none, x, none},
	} {
		gives(t, read(t, text), want)
	}
}

// P9.1: OpRep of kids with all kinds of parts, with all kinds of numbers.
func TestRepeats(t *testing.T) {
	x, y, none, empty, begin, end := set("x"), set("y"), op(api.OpNone), op(api.OpEmpty), op(api.OpBegin), op(api.OpEnd)
	kids := []api.Term{begin, end, cat(begin, end), cat(begin, x), cat(x, end), cat(begin, x, end), alt(begin, x), alt(end, x), alt(cat(begin, x), cat(y, end), cat(begin, y, end), x), alt(begin, end, empty), alt(begin, none), cat(x, begin), alt(cat(begin, rep(x, 0, 1)), rep(y, 0, 1))}
	for _, kid := range kids {
		for _, least := range []int{0, 1, 2, 3, 199, 200} {
			for _, most := range []int{-1, 0, 1, 2, 3, 4, 199, 200} {
				if most != -1 && most < least {
					continue
				}
				r := rep(kid, least, most)
				if want, ok := model(r); ok {
					gives(t, r, want)
				} else {
					refuses(t, r)
				}
				if taken := least <= 1 && most <= 1; taken == (hoistCode(r) == api.ErrRepeat) {
					t.Errorf("%d to %d: %v", least, most, hoistCode(r))
				}
			}
		}
	}
	gives(t, read(t, "(x|^y)*"), four{rep(x, 0, -1), cat(y, rep(x, 0, -1)), none, none})
	gives(t, read(t, "(x|y$)+"), four{rep(x, 1, -1), none, cat(rep(x, 0, -1), y), none})
	gives(t, read(t, "(^x$|^y|z$)*"), four{empty, y, set("z"), alt(x, cat(y, set("z")))})
	gives(t, read(t, "(^x|y$|z)+"), four{rep(set("z"), 1, -1), cat(x, rep(set("z"), 0, -1)), cat(rep(set("z"), 0, -1), y), cat(cat(x, rep(set("z"), 0, -1)), y)})
	gives(t, read(t, "(()|^x)*"), four{empty, x, none, none})
	gives(t, read(t, "(()|^x)+"), four{empty, x, none, none})
	gives(t, read(t, "(^x)+"), just(b, x))
	gives(t, read(t, "(^x|y)?"), four{alt(empty, y), x, none, none})
	gives(t, read(t, "(^x|())?"), four{alt(empty, empty), x, none, none})
	gives(t, read(t, "(x?|^)+"), four{rep(rep(x, 0, 1), 1, -1), rep(rep(x, 0, 1), 0, -1), none, none})
}

// hoistCode gives the error of Hoist alone.
func hoistCode(x api.Term) api.Errno {
	_, code := hoist.Hoist(x)
	return code
}

// P9.1: an OpRep that is refused, anywhere in a term; what is repeated besides doesn't matter.
func TestRefused(t *testing.T) {
	a, begin := set("a"), op(api.OpBegin)
	for _, x := range []api.Term{rep(begin, 2, 2), rep(cat(a, begin), 0, 2), rep(alt(op(api.OpEnd), a), 3, -1), rep(rep(begin, 0, 0), 1, 2), rep(cat(op(api.OpNone), begin), 2, 2)} {
		refuses(t, x)
		refuses(t, cat(a, x))
		refuses(t, cat(op(api.OpNone), x, a))
		refuses(t, alt(begin, a, x))
		refuses(t, rep(x, 1, 1))
		refuses(t, rep(x, 0, 0))
		refuses(t, rep(x, 0, -1))
		refuses(t, rep(x, 2, 2))
		refuses(t, sample.Nest(x, 1000, func(x api.Term) api.Term { return cat(rep(x, 0, 1), a) }))
	}
	gives(t, cat(rep(a, 2, 3), begin), nothing())
	gives(t, cat(rep(a, 0, 3), begin), just(b, op(api.OpEmpty)))
	gives(t, rep(alt(rep(a, 2, 3), begin), 1, 1), four{rep(a, 2, 3), op(api.OpEmpty), op(api.OpNone), op(api.OpNone)})
}

// P9.2: all parts that are none, empty, null or neither, joined with all others.
func TestJoin(t *testing.T) {
	kinds := func(text string) []api.Term {
		return []api.Term{op(api.OpNone), op(api.OpEmpty), set(text), rep(set(text), 0, 1)}
	}
	a, z := kinds("a"), kinds("z")
	for i := range 1 << 16 {
		x := four{a[i&3], a[i>>2&3], a[i>>4&3], a[i>>6&3]}
		y := four{z[i>>8&3], z[i>>10&3], z[i>>12&3], z[i>>14&3]}
		if got, want := hoist.Join(x, y), modelJoin(x, y); !same(got, want) {
			t.Fatalf("%v and %v: %v, not %v", x, y, got, want)
		}
	}
}

// P9.2: what is null is asked of layer 7, of all kinds of terms.
func TestJoinNull(t *testing.T) {
	r := rand.New(rand.NewSource(1))
	for range 30000 {
		var x, y four
		for i := range x {
			x[i], y[i] = sample.Grow(r.Intn, 1+r.Intn(4)), sample.Grow(r.Intn, 1+r.Intn(4))
		}
		if got, want := hoist.Join(x, y), modelJoin(x, y); !same(got, want) {
			t.Fatalf("%v and %v: %v, not %v", x, y, got, want)
		}
	}
}

// grow gives a term with many anchors, of which most have parts.
func grow(pick func(n int) int, levels int) api.Term {
	if levels <= 1 || pick(5) == 0 {
		if pick(3) == 0 {
			return op(api.OpBegin + pick(2))
		}
		return sample.Grow(pick, 1)
	}
	if pick(4) == 0 {
		bounds := [][2]int{{0, 0}, {1, 1}, {0, 1}, {0, -1}, {1, -1}, {0, -1}, {1, -1}, {0, 1}, {1, 1}, {1, 2}}[pick(10)]
		return rep(grow(pick, levels-1), bounds[0], bounds[1])
	}
	var kids []api.Term
	for range 2 + pick(2) {
		kids = append(kids, grow(pick, levels-1))
	}
	if pick(2) == 0 {
		return cat(kids...)
	}
	return alt(kids...)
}

// P9.1 and P9.2: grown terms against the model.
func TestGrown(t *testing.T) {
	r := rand.New(rand.NewSource(2))
	var told [4]int
	refused := 0
	for i := range 30000 {
		x := grow(r.Intn, 2+i%5)
		want, ok := model(x)
		if !ok {
			refused++
			refuses(t, x)
			continue
		}
		gives(t, x, want)
		for k := range want {
			if want[k].Op != api.OpNone {
				told[k]++
			}
		}
	}
	if refused < 1000 || min(told[n], told[b], told[e], told[w]) < 1000 {
		t.Errorf("refused %d, told %v", refused, told)
	}
}

// matched gives the places at which a term ends, as bits.
func matched(x api.Term, text string) uint {
	out := uint(0)
	for _, bits := range sample.Match(x, text) {
		out |= bits
	}
	return out
}

// P9.3: the parts, each where it may, match what the term matches: to the same places, and from the same.
func TestMatches(t *testing.T) {
	r := rand.New(rand.NewSource(3))
	some := 0
	for i := range 30000 {
		x := grow(r.Intn, 2+i%5)
		p, code := hoist.Hoist(x)
		if code != api.OK {
			continue
		}
		for range 4 {
			text := []byte{}
			for range r.Intn(8) {
				text = append(text, "abA\n"[r.Intn(4)])
			}
			got, last := sample.Match(p[n], string(text)), uint(1)<<len(text)
			got[0] |= sample.Match(p[b], string(text))[0] | sample.Match(p[w], string(text))[0]&last
			for i, bits := range sample.Match(p[e], string(text)) {
				got[i] |= bits & last
			}
			if want := sample.Match(x, string(text)); got != want {
				t.Fatalf("%v in %q: %b, not %b", x, text, got, want)
			}
			if matched(x, string(text)) != matched(p[n], string(text)) {
				some++
			}
		}
	}
	if some < 1000 {
		t.Errorf("only %d matches by anchors", some)
	}
}

// P1: terms that aren't right; nothing is asked but that all calls end.
func TestWrong(t *testing.T) {
	a, begin := set("a"), op(api.OpBegin)
	var wrong []api.Term
	for _, m := range []int{math.MinInt, -2, -1, 0, 1, 2, 201, math.MaxInt} {
		wrong = append(wrong, op(m), api.Term{Op: m, Min: m, Max: m, Set: api.Class{1}, Kids: []api.Term{a, {}, begin}}, rep(begin, m, m), rep(rep(begin, 1, m), m, 1), rep(begin, 0, m), rep(begin, 1, m))
	}
	for kind := range api.OpNone + 2 {
		wrong = append(wrong, op(kind), api.Term{Op: kind, Set: api.Class{0, 1}, Kids: []api.Term{begin}}, api.Term{Op: kind, Min: 1, Max: 1, Kids: []api.Term{op(kind), begin}}, api.Term{Op: kind, Max: -1, Kids: []api.Term{begin, a, op(api.OpRep), op(kind)}})
	}
	for _, x := range wrong {
		for _, y := range []api.Term{x, cat(x, a), cat(begin, x), alt(begin, x), rep(x, 1, 1), rep(x, 0, -1), rep(cat(x, begin), 1, -1), cat(alt(x, rep(x, 0, 1)), begin)} {
			hoist.Hoist(y)
			hoist.Join(four{x, y}, four{y, {}, x, x})
		}
	}
	hoist.Join(four{}, four{})
}

// P9.3: what Hoist is handed isn't changed; answers are new memory, their spare room too.
func TestMemory(t *testing.T) {
	r := rand.New(rand.NewSource(4))
	for range 5000 {
		x := sample.Roomy(grow(r.Intn, 5))
		before := sample.Roomy(x)
		one, code := hoist.Hoist(x)
		two, _ := hoist.Hoist(x)
		if !sample.Identical(x, before) || !same(one, two) {
			t.Fatalf("%v, before %v: %v, then %v", x, before, one, two)
		}
		if !sample.Apart(append(append(one[:], two[:]...), x)...) {
			t.Fatalf("%v: %v shares memory", x, one)
		}
		if want, ok := model(before); code == api.OK && (!ok || !same(two, want)) {
			t.Fatalf("%v: %v, not %v", x, two, want)
		}
	}
}

// P9.3: what Join is handed isn't changed; answers are new memory, though a term is handed in twice.
func TestJoinMemory(t *testing.T) {
	r := rand.New(rand.NewSource(5))
	for range 5000 {
		var x, y, oldX, oldY four
		for i := range x {
			x[i] = sample.Roomy(sample.Grow(r.Intn, 1+r.Intn(4)))
			y[i] = sample.Roomy(sample.Grow(r.Intn, 1+r.Intn(4)))
			oldX[i], oldY[i] = sample.Roomy(x[i]), sample.Roomy(y[i])
		}
		one, two := hoist.Join(x, y), hoist.Join(x, x)
		for i := range x {
			if !sample.Identical(x[i], oldX[i]) || !sample.Identical(y[i], oldY[i]) {
				t.Fatalf("%v, before %v", x, oldX)
			}
		}
		all := append(append(append(one[:], two[:]...), x[:]...), y[:]...)
		if !sample.Apart(all...) {
			t.Fatalf("%v, %v: shared memory", x, y)
		}
	}
}

// P1 and P9.1: terms of many levels, and of many kids, end soon.
func TestGreat(t *testing.T) {
	a, none, empty, begin, many := set("a"), op(api.OpNone), op(api.OpEmpty), op(api.OpBegin), 1<<16-1
	for _, into := range []func(x api.Term) api.Term{
		func(x api.Term) api.Term { return cat(empty, x) },
		func(x api.Term) api.Term { return cat(x, empty) },
		func(x api.Term) api.Term { return rep(x, 1, 1) },
		func(x api.Term) api.Term { return rep(x, 1, -1) },
		func(x api.Term) api.Term { return alt(x, none) },
		func(x api.Term) api.Term { return alt(none, x) },
	} {
		gives(t, sample.Nest(begin, many, into), just(b, empty))
		gives(t, sample.Nest(a, many, into), just(n, sample.Nest(a, many, into)))
	}
	gives(t, sample.Nest(begin, many, func(x api.Term) api.Term { return cat(x, a) }), just(b, sample.Nest(a, many-1, func(x api.Term) api.Term { return cat(x, a) })))
	gives(t, sample.Nest(op(api.OpEnd), many, func(x api.Term) api.Term { return cat(a, x) }), just(e, sample.Nest(a, many-1, func(x api.Term) api.Term { return cat(a, x) })))
	gives(t, sample.Nest(begin, many, func(x api.Term) api.Term { return alt(x, a) }), four{sample.Nest(a, many-1, func(x api.Term) api.Term { return alt(x, a) }), empty, none, none})
	refuses(t, sample.Nest(rep(begin, 2, 2), many, func(x api.Term) api.Term { return rep(x, 1, 1) }))
	// Kids side by side come to be levels.
	kids := 1 << 18
	first := func(x api.Term) api.Term { return cat(x, a) }
	gives(t, cat(append([]api.Term{begin}, sample.Many(a, kids)...)...), just(b, sample.Nest(a, kids-1, first)))
	gives(t, cat(append(sample.Many(a, kids), op(api.OpEnd))...), just(e, sample.Nest(a, kids-1, first)))
	gives(t, alt(append(sample.Many(a, kids), begin)...), four{sample.Nest(a, kids-1, func(x api.Term) api.Term { return alt(x, a) }), empty, none, none})
	gives(t, cat(sample.Many(begin, kids)...), just(b, empty))
}
