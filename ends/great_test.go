package ends_test

import (
	"fmt"
	"strings"
	"testing"

	"riddle/api"
	"riddle/sample"
)

// P1 and P10.1: terms of many levels end soon.
func TestDeep(t *testing.T) {
	a, b, empty, n := set("a"), set("b"), op(api.OpEmpty), 1<<16
	w := strings.Repeat("a", 20)
	for i, c := range []struct {
		into       func(x api.Term) api.Term
		from, last int
	}{
		{func(x api.Term) api.Term { return cat(x, empty) }, 1, 1},
		{func(x api.Term) api.Term { return cat(empty, x) }, 1, 1},
		{func(x api.Term) api.Term { return alt(x, b) }, 1, 1},
		{func(x api.Term) api.Term { return alt(b, x) }, 1, 1},
		{func(x api.Term) api.Term { return rep(cat(a, x), 0, 1) }, 0, 20},
		{func(x api.Term) api.Term { return rep(x, 1, 1) }, 1, 1},
		{func(x api.Term) api.Term { return rep(x, 0, 1) }, 0, 1},
		{func(x api.Term) api.Term { return rep(x, 0, -1) }, 0, 20},
		{func(x api.Term) api.Term { return rep(x, 1, -1) }, 1, 20},
		{func(x api.Term) api.Term { return rep(x, 1, 2) }, 1, 20},
		{func(x api.Term) api.Term { return rep(x, 0, 200) }, 0, 20},
		{func(x api.Term) api.Term { return rep(x, 2, 2) }, 21, 20},
		{func(x api.Term) api.Term { return rep(alt(x, empty), 2, 2) }, 0, 20},
		{func(x api.Term) api.Term { return rep(alt(x, empty), 200, 200) }, 0, 20},
		{func(x api.Term) api.Term { return rep(cat(x, rep(b, 0, 1)), 0, -1) }, 0, 20},
		{func(x api.Term) api.Term { return rep(alt(cat(x, rep(b, 0, 1)), b), 1, 3) }, 1, 20},
		{func(x api.Term) api.Term { return rep(alt(x, op(api.OpBegin)), 7, 9) }, 0, 20},
	} {
		t.Run(fmt.Sprint(i), func(t *testing.T) {
			x := sample.Nest(a, n/8, c.into)
			from(t, x, w, 0, span(c.from, c.last)...)
			if c.from <= 1 {
				all(t, x, w, span(c.from, 20)...)
			}
		})
	}
	from(t, sample.Nest(a, n-1, func(x api.Term) api.Term { return rep(x, 0, -1) }), w, 3, span(3, 20)...)
}

// P1 and P10.1: patterns of few bytes that ask for the same again and again.
func TestAgain(t *testing.T) {
	w := strings.Repeat("a", 40)
	for _, c := range []struct {
		inner, outer string
		first, last  int
	}{
		{"a*", ")*", 0, 40}, {"a?", "){200}", 0, 40}, {"a", "){1,200}", 1, 40}, {"a?", "b?){2}", 0, 40}, {"a", ")+", 1, 40}, {"a|aa", "|a){1,9}", 1, 40}, {"a?", "a?){0,3}", 0, 40},
	} {
		text := strings.Repeat("(", 25) + c.inner + strings.Repeat(c.outer, 25)
		if len(text) > api.MaxPattern {
			text = strings.Repeat("(", 20) + c.inner + strings.Repeat(c.outer, 20)
		}
		x := read(t, text)
		from(t, x, w, 0, span(c.first, c.last)...)
		from(t, x, w, 7, span(7+c.first, c.last)...)
		all(t, x, w, span(c.first, c.last)...)
		from(t, cat(x, op(api.OpEnd)), w+"c", 0)
	}
	// Each level is taken an odd number of times, as often as the bytes allow.
	x := sample.Nest(cat(set("a"), set("a")), 3, func(x api.Term) api.Term { return rep(x, 3, 3) })
	from(t, x, strings.Repeat("a", 54), 0, 54)
	from(t, x, strings.Repeat("a", 53), 0)
	from(t, x, strings.Repeat("a", 60), 5, 59)
}

// P1 and P10.1: long texts, and places far apart.
func TestLong(t *testing.T) {
	n := 1 << 18
	w := strings.Repeat("ab", n/2)
	from(t, read(t, "[ab]*"), w, 0, span(0, n)...)
	from(t, read(t, "(a|b)*"), w, 100, span(100, n)...)
	from(t, read(t, "(ab?|b)*"), w, 1, span(1, n)...)
	from(t, read(t, "((a*b)*a?)*"), w, 0, span(0, n)...)
	from(t, read(t, "(ab)*$"), w, 0, n)
	from(t, read(t, ".*b$|a"), w, 0, 1, n)
	from(t, read(t, "(.{200}){200}"), w, 11, 40011)
	from(t, read(t, ".*(a|$)a?"), w, n-3, n-1, n)
	all(t, read(t, "^a|b$|^.*$"), w, 1, n)
	all(t, read(t, "(.*a)*^a"), w, 1)
	all(t, read(t, ".{200}"), w, span(200, n)...)
	all(t, read(t, "((a|b){2,3}|c){2}"), w, span(4, n)...)
	// Places in all words but for some.
	gaps := strings.Repeat("a", 64) + strings.Repeat("b", 200) + strings.Repeat("a", 63) + "b"
	all(t, read(t, "a"), gaps, append(span(1, 64), span(265, 327)...)...)
	all(t, read(t, "b$|a"), gaps, append(span(1, 64), span(265, 328)...)...)
	all(t, read(t, "bb*a"), gaps, 265)
	all(t, read(t, "ab+|b"), gaps, append(span(65, 264), 328)...)
	all(t, read(t, "^|$"), gaps, 0, 328)
	all(t, read(t, "$|^"), gaps, 0, 328)
}

// P10.1: texts whose lengths are around those of words.
func TestLengths(t *testing.T) {
	for n := range 200 {
		w := strings.Repeat("a", n)
		all(t, op(api.OpEmpty), w, span(0, n)...)
		all(t, set("a"), w, span(1, n)...)
		all(t, op(api.OpEnd), w, n)
		all(t, read(t, "aa$|^"), w, map[bool][]int{true: {0, n}, false: {0}}[n >= 2]...)
		for _, i := range []int{0, n / 2, n - 1, n} {
			if i >= 0 {
				from(t, read(t, "a*"), w, i, span(i, n)...)
				from(t, read(t, "(aa?)+"), w, i, span(i+1, n)...)
				from(t, read(t, "a{64}"), w, i, span(i+64, min(i+64, n))...)
				from(t, read(t, "(a{64}){3}"), w, i, span(i+192, min(i+192, n))...)
				from(t, read(t, "(a{64}){0,2}"), w, i, []int{i, i + 64, i + 128}[:min(3, (n-i)/64+1)]...)
				from(t, read(t, "$"), w, i, span(max(i, n), i)...)
				from(t, read(t, "^"), w, i, span(i, 0)...)
			}
		}
	}
}

// P1 and P10.1: terms of many kids.
func TestWide(t *testing.T) {
	n := 1 << 16
	a, empty := set("a"), op(api.OpEmpty)
	w := strings.Repeat("a", n)
	from(t, cat(sample.Many(a, n)...), w, 0, n)
	from(t, cat(sample.Many(a, n)...), w, 1)
	from(t, cat(sample.Many(alt(a, empty), 500)...), w, 0, span(0, 500)...)
	all(t, cat(sample.Many(empty, n)...), "ab", 0, 1, 2)
	all(t, alt(sample.Many(a, n)...), "aba", 1, 3)
	all(t, rep(alt(sample.Many(a, n)...), 0, -1), "aba", 0, 1, 2, 3)
	// Kids of all lengths, the long ones first.
	var kids []api.Term
	for k := range 200 {
		kids = append(kids, rep(a, 200-k, 200-k))
	}
	from(t, alt(kids...), w, 3, span(4, 203)...)
	from(t, rep(alt(kids...), 2, 2), w, 3, span(5, 403)...)
}
