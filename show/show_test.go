package show_test

import (
	"fmt"
	"math"
	"strings"
	"testing"

	"riddle/api"
	"riddle/sample"
	"riddle/show"
	"riddle/syntax"
)

// Short names for the terms of samples.
var (
	of, set, op   = sample.Class, sample.Set, sample.Op
	cat, alt, rep = sample.Cat, sample.Alt, sample.Rep
	same, many    = sample.Same, sample.Many
)

// nest puts a term into an OpRep 0 to 1, so many times.
func nest(t api.Term, n int) api.Term {
	return sample.Nest(t, n, func(t api.Term) api.Term { return rep(t, 0, 1) })
}

// shows tells what is wrong with the form of a right term, with Check, and with how it is read again.
func shows(t *testing.T, x api.Term, want string) {
	t.Helper()
	if got, e := show.Show(x); e != api.OK || string(got) != want {
		t.Errorf("%v: %q, %v, not %q", x, got, e, want)
	}
	if e := show.Check(x); e != api.OK {
		t.Errorf("%v: Check: %v", x, e)
	}
	if y, e, at := syntax.Parse([]byte(want)); e != api.OK || !same(x, y) {
		t.Errorf("%q is read as %v, %v, %d, not %v", want, y, e, at, x)
	}
}

// refuses tells what is wrong with the answers about a term that has no form.
func refuses(t *testing.T, name string, x api.Term, want api.Errno) {
	t.Helper()
	if got, e := show.Show(x); e != want || len(got) != 0 {
		t.Errorf("%s: %q, %v, not %v", name, got, e, want)
	}
	if e := show.Check(x); e != want {
		t.Errorf("%s: Check: %v, not %v", name, e, want)
	}
}

func TestExamples(t *testing.T) {
	shows(t, rep(cat(set("a"), op(api.OpEmpty)), 2, 2), "(a()){2}")
	shows(t, set("abcx"), "[a-cx]")
	shows(t, set("|"), "\\x7c")
}

// P6.1 and P6.2: each kind of term within each other one.
func TestShapes(t *testing.T) {
	a, b, c, none := set("a"), set("b"), set("c"), op(api.OpEmpty)
	shows(t, none, "")
	shows(t, op(api.OpDot), ".")
	shows(t, op(api.OpBegin), "^")
	shows(t, op(api.OpEnd), "$")
	shows(t, cat(a, b, c), "abc")
	shows(t, cat(none, a), "()a")
	shows(t, cat(none, none), "()()")
	shows(t, cat(cat(a, b), c), "(ab)c")
	shows(t, cat(a, cat(b, c)), "a(bc)")
	shows(t, cat(alt(a, b), c), "(a|b)c")
	shows(t, cat(rep(a, 0, -1), b), "a*b")
	shows(t, cat(op(api.OpBegin), op(api.OpDot), op(api.OpEnd)), "^.$")
	shows(t, alt(a, b, c), "a|b|c")
	shows(t, alt(none, a), "|a")
	shows(t, alt(none, none), "|")
	shows(t, alt(cat(a, b), c), "ab|c")
	shows(t, alt(alt(a, b), c), "(a|b)|c")
	shows(t, alt(a, alt(b, c)), "a|(b|c)")
	shows(t, alt(rep(a, 0, -1), op(api.OpEnd)), "a*|$")
	shows(t, rep(none, 0, -1), "()*")
	shows(t, rep(a, 0, -1), "a*")
	shows(t, rep(set("ab"), 0, -1), "[ab]*")
	shows(t, rep(set("\n"), 0, -1), "\\x0a*")
	shows(t, rep(set(""), 0, -1), "[b-a]*")
	shows(t, rep(op(api.OpDot), 0, -1), ".*")
	shows(t, rep(op(api.OpBegin), 0, -1), "^*")
	shows(t, rep(op(api.OpEnd), 0, -1), "$*")
	shows(t, rep(cat(a, b), 0, -1), "(ab)*")
	shows(t, rep(alt(a, b), 0, -1), "(a|b)*")
	shows(t, rep(rep(a, 0, -1), 0, -1), "(a*)*")
}

// P6.1: all pairs of numbers of an OpRep, and those beside the bounds.
func TestQuants(t *testing.T) {
	for least := -2; least <= 202; least++ {
		for most := -3; most <= 202; most++ {
			x := rep(set("a"), least, most)
			if least < 0 || least > 200 || most != -1 && (most < least || most > 200) {
				refuses(t, fmt.Sprint(least, most), x, api.ErrArg)
				continue
			}
			shows(t, x, "a"+quant(least, most))
		}
	}
	for _, n := range []int{math.MinInt, math.MinInt32, -1 << 16, 256, 1<<32 + 1, math.MaxInt} {
		refuses(t, fmt.Sprint("least ", n), rep(set("a"), n, n), api.ErrArg)
		refuses(t, fmt.Sprint("least ", n), rep(set("a"), n, -1), api.ErrArg)
		refuses(t, fmt.Sprint("most ", n), rep(set("a"), 1, n), api.ErrArg)
	}
}

// quant tells by the document's words how often something comes.
func quant(least, most int) string {
	if most == -1 && least < 2 {
		return "*+"[least : least+1]
	}
	if least == 0 && most == 1 {
		return "?"
	}
	if least == most {
		return fmt.Sprintf("{%d}", least)
	}
	if most == -1 {
		return fmt.Sprintf("{%d,}", least)
	}
	return fmt.Sprintf("{%d,%d}", least, most)
}

// char tells by the document's words how a byte is written.
func char(b int) string {
	if b < 128 && strings.Contains("0123456789abcdefghijklmnopqrstuvwxyzABCDEFGHIJKLMNOPQRSTUVWXYZ", string(rune(b))) {
		return string(rune(b))
	}
	return fmt.Sprintf("\\x%02x", b)
}

// span gives the set of the bytes from one to another.
func span(first, last int) api.Class {
	var c api.Class
	for b := first; b <= last; b++ {
		c[b/64] |= 1 << (b % 64)
	}
	return c
}

// P6.1: sets of one run, of every length, at every place.
func TestRuns(t *testing.T) {
	shows(t, set(""), "[b-a]")
	for first := range 256 {
		for last := first; last < 256; last++ {
			x := api.Term{Op: api.OpSet, Set: span(first, last)}
			switch last - first {
			case 0:
				shows(t, x, char(first))
			case 1:
				shows(t, x, "["+char(first)+char(last)+"]")
			default:
				shows(t, x, "["+char(first)+"-"+char(last)+"]")
			}
		}
	}
}

// P6.1: sets of several runs.
func TestSets(t *testing.T) {
	for list, want := range map[string]string{
		"ac": "[ac]", "abd": "[abd]", "acd": "[acd]", "abcefh": "[a-cefh]", "09AZaz": "[09AZaz]", "^-]": "[\\x2d\\x5d\\x5e]", "-a": "[\\x2da]", "\x00\x01\x02\xfd\xfe\xff": "[\\x00-\\x02\\xfd-\\xff]", "/01": "[\\x2f-1]", "\x00\xff": "[\\x00\\xff]", "YZ[": "[Y-\\x5b]", "\n\r\t": "[\\x09\\x0a\\x0d]", "?@": "[\\x3f\\x40]", "\x3e\x3f\x40\x41": "[\\x3e-A]",
	} {
		shows(t, set(list), want)
	}
}

// P6.1: what isn't right, by itself and within others.
func TestWrong(t *testing.T) {
	a := set("a")
	for i, x := range []api.Term{
		{}, op(-1), op(api.OpNone), op(api.OpNone + 1), op(math.MinInt), op(math.MaxInt), op(1 << 32), op(1<<32 + api.OpDot),
		{Op: api.OpEmpty, Min: 1}, {Op: api.OpEmpty, Max: 1}, {Op: api.OpEmpty, Set: of("a")}, {Op: api.OpEmpty, Kids: many(a, 1)},
		{Op: api.OpSet, Set: of("a"), Min: 1}, {Op: api.OpSet, Set: of("a"), Max: -1}, {Op: api.OpSet, Set: of("a"), Kids: many(a, 1)}, {Op: api.OpSet, Kids: many(a, 2)},
		{Op: api.OpDot, Min: -1}, {Op: api.OpDot, Max: 1}, {Op: api.OpDot, Set: api.Class{0, 0, 0, 1 << 63}}, {Op: api.OpDot, Kids: many(a, 1)},
		{Op: api.OpBegin, Min: 1}, {Op: api.OpBegin, Max: 1}, {Op: api.OpBegin, Set: api.Class{0, 1}}, {Op: api.OpBegin, Kids: many(a, 2)},
		{Op: api.OpEnd, Min: 1}, {Op: api.OpEnd, Max: 1}, {Op: api.OpEnd, Set: api.Class{0, 0, 1}}, {Op: api.OpEnd, Kids: many(a, 1)},
		op(api.OpCat), cat(a), {Op: api.OpCat, Kids: many(a, 2), Min: 1}, {Op: api.OpCat, Kids: many(a, 2), Max: -1}, {Op: api.OpCat, Kids: many(a, 2), Set: of("a")},
		op(api.OpAlt), alt(a), {Op: api.OpAlt, Kids: many(a, 2), Min: 1}, {Op: api.OpAlt, Kids: many(a, 2), Max: -1}, {Op: api.OpAlt, Kids: many(a, 2), Set: of("a")},
		op(api.OpRep), {Op: api.OpRep, Max: 1, Kids: many(a, 2)}, {Op: api.OpRep, Max: 1, Kids: many(a, 1), Set: of("a")}, rep(a, -1, -1), rep(a, 3, 2), rep(a, 0, -2), rep(a, 201, 201), rep(a, 201, -1), rep(a, 0, 201),
	} {
		name := fmt.Sprintf("%d: %v", i, x)
		refuses(t, name, x, api.ErrArg)
		refuses(t, name+" first", cat(x, a), api.ErrArg)
		refuses(t, name+" last", alt(a, a, x), api.ErrArg)
		refuses(t, name+" deep", cat(a, rep(alt(a, cat(a, x)), 0, -1)), api.ErrArg)
		// ErrArg is named ahead of ErrLong and ErrDeep.
		refuses(t, name+" far", cat(append(many(a, 300), x)...), api.ErrArg)
		refuses(t, name+" very deep", nest(x, 40), api.ErrArg)
		refuses(t, name+" very deep and far", nest(x, 5000), api.ErrArg)
	}
}

// P6.1: forms at the bounds of their length.
func TestLong(t *testing.T) {
	a := set("a")
	shows(t, cat(many(a, 200)...), strings.Repeat("a", 200))
	refuses(t, "201 letters", cat(many(a, 201)...), api.ErrLong)
	shows(t, alt(many(op(api.OpEmpty), 201)...), strings.Repeat("|", 200))
	refuses(t, "201 bars", alt(many(op(api.OpEmpty), 202)...), api.ErrLong)
	shows(t, cat(many(op(api.OpEmpty), 100)...), strings.Repeat("()", 100))
	refuses(t, "101 pairs of brackets", cat(many(op(api.OpEmpty), 101)...), api.ErrLong)
	shows(t, rep(cat(many(a, 197)...), 0, -1), "("+strings.Repeat("a", 197)+")*")
	refuses(t, "a star behind 200 bytes", rep(cat(many(a, 198)...), 0, -1), api.ErrLong)
	shows(t, cat(append(many(a, 194), rep(a, 2, 3))...), strings.Repeat("a", 194)+"a{2,3}")
	refuses(t, "a brace behind 200 bytes", cat(append(many(a, 195), rep(a, 2, 3))...), api.ErrLong)
}

// P6.1: forms at the bounds of their depth.
func TestDeep(t *testing.T) {
	a := set("a")
	shows(t, nest(a, 31), strings.Repeat("(", 30)+"a?"+strings.Repeat(")?", 30))
	refuses(t, "31 brackets", nest(a, 32), api.ErrDeep)
	refuses(t, "31 brackets, the last ones around nothing", nest(op(api.OpEmpty), 31), api.ErrDeep)
	shows(t, nest(op(api.OpEmpty), 30), strings.Repeat("(", 30)+strings.Repeat(")?", 30))
	shows(t, cat(nest(a, 31), nest(a, 31)), strings.Repeat(strings.Repeat("(", 30)+"a?"+strings.Repeat(")?", 30), 2))
	refuses(t, "31 brackets behind 30", cat(nest(a, 31), nest(a, 32)), api.ErrDeep)
	refuses(t, "31 brackets ahead of none", cat(nest(a, 32), a), api.ErrDeep)
	// ErrLong is named ahead of ErrDeep.
	refuses(t, "200 bytes", nest(a, 67), api.ErrDeep)
	refuses(t, "203 bytes", nest(a, 68), api.ErrLong)
	refuses(t, "deep, then long", cat(append([]api.Term{nest(a, 40)}, many(a, 200)...)...), api.ErrLong)
	refuses(t, "long, then deep", cat(append(many(a, 200), nest(a, 40))...), api.ErrLong)
}

// P1: terms of many parts end soon.
func TestGreat(t *testing.T) {
	a := set("a")
	refuses(t, "many kids", cat(many(a, 1<<20)...), api.ErrLong)
	refuses(t, "many empty kids", alt(many(op(api.OpEmpty), 1<<20)...), api.ErrLong)
	refuses(t, "many levels", nest(a, 1<<15), api.ErrLong)
	left := a
	for range 1 << 14 {
		left = cat(alt(rep(left, 0, 1), a), a)
	}
	refuses(t, "many levels of three kinds", left, api.ErrLong)
}
