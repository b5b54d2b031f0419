package syntax_test

import (
	"bytes"
	"reflect"
	"strings"
	"testing"

	"riddle/api"
	"riddle/sample"
	"riddle/syntax"
)

// Short names for the terms of samples.
var (
	of, set, op   = sample.Class, sample.Set, sample.Op
	cat, alt, rep = sample.Cat, sample.Alt, sample.Rep
	same          = sample.Same
)

// but gives the set of all bytes but some.
func but(list string) api.Class {
	c := of(list)
	for i := range c {
		c[i] = ^c[i]
	}
	return c
}

// reads tells what is wrong with what Parse reads.
func reads(t *testing.T, text string, want api.Term) {
	t.Helper()
	if got, e, at := syntax.Parse([]byte(text)); e != api.OK || at != 0 || !same(got, want) {
		t.Errorf("%q: %v, %v, %d, not %v", text, got, e, at, want)
	}
}

// refuses tells what is wrong with what Parse answers where it can't read.
func refuses(t *testing.T, text string, code api.Errno, place int) {
	t.Helper()
	if got, e, at := syntax.Parse([]byte(text)); e != code || at != place || !reflect.DeepEqual(got, api.Term{}) {
		t.Errorf("%q: %v, %v, %d, not %v, %d", text, got, e, at, code, place)
	}
}

func TestExamples(t *testing.T) {
	reads(t, "a|b*", alt(set("a"), rep(set("b"), 0, -1)))
	reads(t, "", op(api.OpEmpty))
	refuses(t, "a**", api.ErrSyntax, 2)
	refuses(t, "(a", api.ErrSyntax, 2)
	refuses(t, "a)", api.ErrSyntax, 1)
	refuses(t, "a{3,2}", api.ErrRepeat, 1)
	refuses(t, "[]", api.ErrSyntax, 1)
	refuses(t, "(^a){", api.ErrSyntax, 5)
}

// P5.1: groups, cats and alts of none, one and more.
func TestShapes(t *testing.T) {
	a, b, c, none := set("a"), set("b"), set("c"), op(api.OpEmpty)
	reads(t, "a", a)
	reads(t, "ab", cat(a, b))
	reads(t, "abc", cat(a, b, c))
	reads(t, "()", none)
	reads(t, "((a))", a)
	reads(t, "()()", cat(none, none))
	reads(t, "a(bc)", cat(a, cat(b, c)))
	reads(t, "(ab)c", cat(cat(a, b), c))
	reads(t, "((ab))", cat(a, b))
	reads(t, "|", alt(none, none))
	reads(t, "a|", alt(a, none))
	reads(t, "|a|", alt(none, a, none))
	reads(t, "a|b|c", alt(a, b, c))
	reads(t, "(a|b)|c", alt(alt(a, b), c))
	reads(t, "(a|b)", alt(a, b))
	reads(t, "(a|b)c", cat(alt(a, b), c))
	reads(t, "a|bc", alt(a, cat(b, c)))
	reads(t, "^.$", cat(op(api.OpBegin), op(api.OpDot), op(api.OpEnd)))
	reads(t, "(|)", alt(none, none))
}

// P5.1: what a quant stands behind, and how often it tells.
func TestQuants(t *testing.T) {
	a, b := set("a"), set("b")
	for text, often := range map[string][2]int{
		"*": {0, -1}, "+": {1, -1}, "?": {0, 1}, "{0}": {0, 0}, "{1}": {1, 1}, "{7}": {7, 7}, "{200}": {200, 200}, "{000}": {0, 0}, "{01}": {1, 1}, "{019}": {19, 19},
		"{0,}": {0, -1}, "{200,}": {200, -1}, "{0,0}": {0, 0}, "{0,1}": {0, 1}, "{0,200}": {0, 200}, "{200,200}": {200, 200}, "{3,12}": {3, 12}, "{002,10}": {2, 10}, "{9,010}": {9, 10},
	} {
		reads(t, "a"+text, rep(a, often[0], often[1]))
		reads(t, "ba"+text, cat(b, rep(a, often[0], often[1])))
		reads(t, "(ba)"+text+"b", cat(rep(cat(b, a), often[0], often[1]), b))
		reads(t, "b|a"+text, alt(b, rep(a, often[0], often[1])))
		reads(t, "()"+text, rep(op(api.OpEmpty), often[0], often[1]))
		reads(t, "^"+text, rep(op(api.OpBegin), often[0], often[1]))
		reads(t, "$"+text, rep(op(api.OpEnd), often[0], often[1]))
		reads(t, "."+text, rep(op(api.OpDot), often[0], often[1]))
		reads(t, "[a]"+text, rep(a, often[0], often[1]))
		reads(t, "\\x61"+text, rep(a, often[0], often[1]))
		reads(t, "(a*)"+text, rep(rep(a, 0, -1), often[0], often[1]))
		for _, again := range []string{"*", "+", "?", "{1}"} {
			refuses(t, "a"+text+again, api.ErrSyntax, 1+len(text))
		}
	}
}

// P5.1: which bytes stand for themselves, outside of a class and within one.
func TestBytes(t *testing.T) {
	for i := range 256 {
		b := string([]byte{byte(i)})
		switch {
		case strings.Contains("^$.", b):
		case b == "|":
			reads(t, "x|y", alt(set("x"), set("y")))
		case b == "(" || b == "[" || b == "\\":
			refuses(t, b, api.ErrSyntax, 1)
		case strings.Contains(")]{}*+?", b):
			refuses(t, b, api.ErrSyntax, 0)
		default:
			reads(t, b, set(b))
			reads(t, "x"+b+"*", cat(set("x"), rep(set(b), 0, -1)))
		}
		if strings.Contains("[]^-\\", b) {
			continue
		}
		reads(t, "["+b+"]", set(b))
		reads(t, "[^"+b+"]", api.Term{Op: api.OpSet, Set: but(b)})
		reads(t, "["+b+"-"+b+"]", set(b))
		reads(t, "[\\x00-"+b+"]", api.Term{Op: api.OpSet, Set: upTo(i)})
	}
}

// upTo gives the set of the bytes from 0 to one.
func upTo(last int) api.Class {
	var c api.Class
	for i := 0; i <= last; i++ {
		c[i/64] |= 1 << (i % 64)
	}
	return c
}

const (
	allDigits  = "0123456789"
	allLetters = "abcdefghijklmnopqrstuvwxyzABCDEFGHIJKLMNOPQRSTUVWXYZ"
	allSpaces  = "\t\n\v\f\r "
	allMarks   = "!\"#$%&'()*+,-./:;<=>?@[\\]^_`{|}~"
)

// escapes are what stands behind a backslash, and what it means.
func escapes() map[string]api.Class {
	out := map[string]api.Class{
		"n": of("\n"), "t": of("\t"), "r": of("\r"),
		"d": of(allDigits), "w": of(allDigits + allLetters + "_"), "s": of(allSpaces),
		"D": but(allDigits), "W": but(allDigits + allLetters + "_"), "S": but(allSpaces),
	}
	for i := range len(allMarks) {
		out[allMarks[i:i+1]] = of(allMarks[i : i+1])
	}
	return out
}

// P5.1: every byte behind a backslash, outside of a class and within one.
func TestEscapes(t *testing.T) {
	all := escapes()
	for i := range 256 {
		b := string([]byte{byte(i)})
		c, ok := all[b]
		switch {
		case b == "x":
			refuses(t, "\\x", api.ErrSyntax, 2)
			refuses(t, "[\\x]", api.ErrSyntax, 3)
		case !ok:
			refuses(t, "\\"+b, api.ErrSyntax, 1)
			refuses(t, "[\\"+b+"]", api.ErrSyntax, 2)
			refuses(t, "[a-\\"+b+"]", api.ErrSyntax, 4)
		case strings.Contains("dwsDWS", b):
			reads(t, "\\"+b, api.Term{Op: api.OpSet, Set: c})
			reads(t, "[\\"+b+"]", api.Term{Op: api.OpSet, Set: c})
			reads(t, "[^\\"+b+"]", api.Term{Op: api.OpSet, Set: [4]uint64{^c[0], ^c[1], ^c[2], ^c[3]}})
			refuses(t, "[\\"+b+"-z]", api.ErrSyntax, 3)
			refuses(t, "[a-\\"+b+"]", api.ErrSyntax, 4)
		default:
			reads(t, "\\"+b, api.Term{Op: api.OpSet, Set: c})
			reads(t, "[\\"+b+"]", api.Term{Op: api.OpSet, Set: c})
			reads(t, "[\\"+b+"-\\"+b+"]", api.Term{Op: api.OpSet, Set: c})
		}
	}
}

// P5.1: all pairs of hexes, in either case, and all pairs that are none.
func TestHexes(t *testing.T) {
	const hexes = "0123456789abcdef"
	value := func(b byte) int { return strings.IndexByte(hexes, bytes.ToLower([]byte{b})[0]) }
	for i := range 256 {
		for j := range 256 {
			text := "\\x" + string([]byte{byte(i), byte(j)})
			high, low := value(byte(i)), value(byte(j))
			switch {
			case high < 0:
				refuses(t, text, api.ErrSyntax, 2)
			case low < 0:
				refuses(t, text, api.ErrSyntax, 3)
			default:
				reads(t, text, set(string([]byte{byte(high*16 + low)})))
			}
		}
	}
}

// P5.1: items of a class, together and turned.
func TestClasses(t *testing.T) {
	for text, c := range map[string]api.Class{
		"[a-c]": of("abc"), "[c-a]": {}, "[a-a]": of("a"), "[abc]": of("abc"), "[a-cx-z]": of("abcxyz"), "[^a-c]": but("abc"), "[^c-a]": but(""), "[c-ax]": of("x"),
		"[a$]": of("a$"), "[.]": of("."), "[*+?]": of("*+?"), "[{}]": of("{}"), "[(|)]": of("(|)"), "[,-/]": of(",-./"), "[\\--\\/]": of("-./"), "[\\x2d-/]": of("-./"), "[+-\\-]": of("+,-"),
		"[\\^a]": of("^a"), "[^\\^]": but("^"), "[\\]]": of("]"), "[\\[-\\]]": of("[\\]"), "[\\d\\s]": of(allDigits + allSpaces), "[\\D\\d]": but(""), "[^\\D\\d]": {}, "[^\\Da]": of(allDigits),
		"[\\n-\\r]": of("\n\v\f\r"), "[\\x00-\\xff]": but(""), "[\\xfF-\\xFf]": of("\xff"), "[\x00-\x02]": of("\x00\x01\x02"), "[\xfe-\xff]": of("\xfe\xff"), "[a-cb-d]": of("abcd"), "[w\\wd]": of(allDigits + allLetters + "_"),
	} {
		reads(t, text, api.Term{Op: api.OpSet, Set: c})
	}
	for text, at := range map[string]int{
		"[": 1, "[^": 2, "[]": 1, "[^]": 2, "[^^": 2, "[-a]": 1, "[^-a]": 2, "[a": 2, "[a-": 3, "[a-]": 3, "[a-b": 4, "[a-b-c]": 4, "[a^]": 2, "[a[]": 2, "[a-^]": 3, "[a-[]": 3, "[a--]": 3, "[\\": 2, "[a-\\": 4, "[\\x": 3, "[\\x4": 4, "[\\x4]": 4, "[\\xg0]": 3, "[\\d-": 3, "[\\q]": 2, "[\\ ]": 2, "[\\d": 3, "[a]]": 3, "[[a]]": 1, "[a-\\x4": 6,
	} {
		refuses(t, text, api.ErrSyntax, at)
	}
}
