package liter_test

import (
	"bytes"
	"fmt"
	"math/rand"
	"slices"
	"strings"
	"testing"

	"riddle/api"
	"riddle/fold"
	"riddle/liter"
	"riddle/sample"
)

// row gives a term's row by the document's words.
func row(x api.Term) []api.Term {
	if x.Op == api.OpCat {
		return x.Kids
	}
	return []api.Term{x}
}

// around gives the row of a literal's head or tail.
func around(x api.Term) []api.Term {
	if x.Op == api.OpEmpty {
		return nil
	}
	return row(x)
}

// term gives a row's term.
func term(list []api.Term) api.Term {
	switch len(list) {
	case 0:
		return sample.Op(api.OpEmpty)
	case 1:
		return list[0]
	}
	return sample.Cat(list...)
}

// letter gives the byte of a letter, as a text; nothing, if a term is none.
func letter(x api.Term) string {
	out := ""
	for b := range 256 {
		if x.Op == api.OpSet && x.Set[b/64]>>(b%64)&1 == 1 {
			out += string([]byte{byte(b)})
		}
	}
	if len(out) != 1 {
		return ""
	}
	return out
}

// letters gives the letters of a text.
func letters(text string) []api.Term {
	var out []api.Term
	for i := range len(text) {
		out = append(out, sample.Set(text[i:i+1]))
	}
	return out
}

// split parts a term by the document's words: of all runs the first one of those of which most letters count.
func split(x api.Term) (api.Split, bool) {
	list := row(x)
	begin, lit := 0, ""
	for i := range list {
		if i > 0 && letter(list[i-1]) != "" {
			continue
		}
		run := ""
		for _, y := range list[i:] {
			if letter(y) == "" || len(run) == 200 {
				break
			}
			run += letter(y)
		}
		if len(run) > len(lit) {
			begin, lit = i, run
		}
	}
	if len(lit) < 2 {
		return api.Split{}, false
	}
	return api.Split{Head: term(list[:begin]), Lit: []byte(lit), Tail: term(list[begin+len(lit):])}, true
}

// same tells whether two splits are one.
func same(a, b api.Split) bool {
	return sample.Same(a.Head, b.Head) && sample.Same(a.Tail, b.Tail) && bytes.Equal(a.Lit, b.Lit)
}

// finds holds where a term is parted.
func finds(t *testing.T, x api.Term, want api.Split, there bool) {
	t.Helper()
	if got, ok := liter.Find(x); ok != there || !same(got, want) {
		t.Errorf("%.300s: %.300s, %v, not %.300s, %v", fmt.Sprint(x), fmt.Sprint(got), ok, fmt.Sprint(want), there)
	}
}

func TestExamples(t *testing.T) {
	set, empty := sample.Set, sample.Op(api.OpEmpty)
	finds(t, sample.TermOf("a*bcd.ef"), api.Split{Head: sample.Rep(set("a"), 0, -1), Lit: []byte("bcd"), Tail: sample.Cat(sample.Op(api.OpDot), set("e"), set("f"))}, true)
	finds(t, sample.TermOf("ab"), api.Split{Head: empty, Lit: []byte("ab"), Tail: empty}, true)
	for _, text := range []string{"a|b", "a+", "a"} {
		finds(t, sample.TermOf(text), api.Split{}, false)
	}
}

// P20.1: patterns parted by hand: head, literal and tail.
func TestFindByHand(t *testing.T) {
	for _, c := range [][3]string{
		{"", "ab", ""}, {"", "abc", ""}, {".", "ab", ""}, {"", "ab", "."}, {".", "ab", "."}, {"a.", "bc", ""}, {"", "ab", ".c"},
		{"", "ab", ".cd"}, {"", "ab", ".cd.ef"}, {"ab.", "cde", ".fg"}, {"ab.", "cde", ".fgh"}, {"a.", "bc", ".de"}, {"ab.cde.", "fghi", ""}, {"abc.d.ef.", "ghij", ".klm.nopq"},
		{"", "ab", "c*"}, {"a*", "bc", ""}, {"", "ab", "[cd]"}, {"[ab]", "cd", ""}, {"", "ab", "[d-c]ef"}, {"[d-c]", "ef", ""}, {"", "ab", "(cd)"}, {"(ab)", "cd", ""},
		{"(a|b)", "cd", ""}, {"", "ab", "(cd|e)"}, {"", "ab", "()cd"}, {"()", "ab", ""}, {"", "ab", "c?d"}, {"", "ab", "c{2}de"}, {"", "ab", "(c)*"}, {"", "abc", "d{0}"}, {"a(b)*", "cd", ""},
		{"", "ab", "^c"}, {"^", "ab", "$"}, {"a^", "bc", ""}, {"(abcdef)", "gh", "i?"}, {"(abc.def)*", "gh", ""}, {"", "aa", "a*"}, {"a+", "aa", "a+"},
		{"", `\x00\xff`, ""}, {"", `\n\n`, "."}, {"", `\x3f\x40\x7f\x80\xbf\xc0`, ""}, {"", "[a][b]", ""}, {"[ab]", "[a-a]b", "[ab]"}, {"", `\.\*`, "."},
	} {
		var lit []byte
		for _, x := range row(sample.TermOf(c[1])) {
			lit = append(lit, letter(x)...)
		}
		finds(t, sample.TermOf(c[0]+c[1]+c[2]), api.Split{Head: sample.TermOf(c[0]), Lit: lit, Tail: sample.TermOf(c[2])}, true)
	}
	for _, text := range []string{"", "()", "a", "ab|cd", "(ab)*", "(ab){2}", "a.b.c", "[ab][ab]", "[ab]", ".", "..", "^$", "a^b", "a()b", "a|bcd", "(ab)(cd)", "a(bc)d", "[b-a]", "a[b-a]b", "a{2}", "a{200}", "\\x00", "a?b?", "(ab)+c"} {
		finds(t, sample.TermOf(text), api.Split{}, false)
	}
}

// run gives so many letters, beginning with another one at each place.
func run(n int) []api.Term {
	return letters(strings.Repeat("abcdefghijklmnopq", 1+n/17)[:n])
}

// P20.1: runs around the most letters that count; more of them make none longer.
func TestFindLong(t *testing.T) {
	dot := []api.Term{sample.Op(api.OpDot)}
	for _, c := range []struct{ first, second, from, to int }{
		{2, 3, 3, 6}, {3, 2, 0, 3}, {199, 200, 200, 400}, {200, 199, 0, 200}, {200, 200, 0, 200}, {200, 201, 0, 200}, {201, 200, 0, 200}, {199, 201, 200, 400}, {201, 202, 0, 200},
		{250, 199, 0, 200}, {400, 200, 0, 200}, {400, 401, 0, 200}, {199, 450, 200, 400}, {198, 199, 199, 398}, {5, 1 << 16, 6, 206}, {1 << 16, 5, 0, 200}, {1, 1, 0, 0}, {0, 2, 1, 3}, {2, 0, 0, 2}, {0, 201, 1, 201}, {1, 200, 2, 202},
	} {
		list := slices.Concat(run(c.first), dot, run(c.second))
		var want api.Split
		if c.to > 0 {
			want = api.Split{Head: term(list[:c.from]), Tail: term(list[c.to:])}
			for _, x := range list[c.from:c.to] {
				want.Lit = append(want.Lit, letter(x)...)
			}
		}
		finds(t, sample.Cat(list...), want, c.to > 0)
	}
	for n := range 450 {
		list := run(n + 2)
		lit := strings.Repeat("abcdefghijklmnopq", 30)[:min(n+2, 200)]
		finds(t, sample.Cat(list...), api.Split{Head: sample.Op(api.OpEmpty), Lit: []byte(lit), Tail: term(list[len(lit):])}, true)
	}
}

// P20.1: each byte is a letter by itself, and not with another one.
func TestFindBytes(t *testing.T) {
	for a := range 256 {
		for b := range 256 {
			one, two := string([]byte{byte(a)}), string([]byte{byte(b)})
			finds(t, sample.Cat(sample.Set(one), sample.Set(two)), api.Split{Head: sample.Op(api.OpEmpty), Lit: []byte(one + two), Tail: sample.Op(api.OpEmpty)}, true)
			if a != b {
				finds(t, sample.Cat(sample.Set(one), sample.Set(one+two)), api.Split{}, false)
			}
		}
	}
}

// grow gives a term whose row has runs of letters.
func grow(r *rand.Rand, longest int) api.Term {
	var list []api.Term
	for range r.Intn(6) {
		if r.Intn(2) == 0 {
			list = append(list, sample.Grow(r.Intn, 1+r.Intn(3)))
		}
		list = append(list, letters(string(sample.Text(r.Intn, "ab\x00\xff", longest)))...)
	}
	if r.Intn(10) == 0 {
		return sample.Alt(sample.Cat(append(list, letters("ab")...)...), sample.Set("a"))
	}
	return term(list)
}

// P20.1: grown terms against the document's words.
func TestFindGrown(t *testing.T) {
	r := rand.New(rand.NewSource(20))
	there := 0
	for i := range 30000 {
		x := grow(r, 2+i%5)
		if i%100 == 0 {
			x = grow(r, 250)
		}
		want, ok := split(x)
		finds(t, x, want, ok)
		if ok {
			there++
		}
	}
	if there < 10000 || there > 29000 {
		t.Errorf("%d of 30000 have a literal", there)
	}
}

// joins holds what a split is joined to.
func joins(t *testing.T, s api.Split, want api.Term) {
	t.Helper()
	if got := liter.Join(s); !sample.Same(got, want) {
		t.Errorf("%.300s: %.300s, not %.300s", fmt.Sprint(s), fmt.Sprint(got), fmt.Sprint(want))
	}
}

// P20.2: splits joined by hand, those that Find doesn't give, too.
func TestJoinByHand(t *testing.T) {
	cat, set, alt, empty, none := sample.Cat, sample.Set, sample.Alt, sample.Op(api.OpEmpty), sample.Op(api.OpNone)
	a, b, x, y := set("a"), set("b"), set("x"), set("y")
	for _, c := range []struct {
		head api.Term
		lit  string
		tail api.Term
		want api.Term
	}{
		{empty, "", empty, empty},
		{empty, "a", empty, a},
		{empty, "ab", empty, cat(a, b)},
		{x, "", empty, x},
		{empty, "", x, x},
		{x, "", y, cat(x, y)},
		{x, "a", empty, cat(x, a)},
		{empty, "a", y, cat(a, y)},
		{x, "ab", y, cat(x, a, b, y)},
		{cat(x, y), "", empty, cat(x, y)},
		{cat(x, y), "a", empty, cat(x, y, a)},
		{cat(x, y), "ab", cat(y, x, y), cat(x, y, a, b, y, x, y)},
		{cat(x, cat(x, y)), "a", alt(cat(x, y), y), cat(x, cat(x, y), a, alt(cat(x, y), y))},
		{cat(x, empty), "a", cat(empty, empty), cat(x, empty, a, empty, empty)},
		{none, "a", none, cat(none, a, none)},
		{alt(x, empty), "ab", sample.Rep(empty, 0, -1), cat(alt(x, empty), a, b, sample.Rep(empty, 0, -1))},
		{sample.Op(api.OpBegin), "\x00\xff", sample.Op(api.OpEnd), cat(sample.Op(api.OpBegin), set("\x00"), set("\xff"), sample.Op(api.OpEnd))},
		{empty, strings.Repeat("ab", 300), empty, cat(slices.Repeat([]api.Term{a, b}, 300)...)},
	} {
		joins(t, api.Split{Head: c.head, Lit: []byte(c.lit), Tail: c.tail}, c.want)
	}
}

// P20.2: grown splits against the document's words.
func TestJoinGrown(t *testing.T) {
	r := rand.New(rand.NewSource(21))
	for i := range 20000 {
		s := api.Split{Head: sample.Grow(r.Intn, 1+i%4), Lit: sample.Text(r.Intn, "ab\x00\xff", 5), Tail: sample.Grow(r.Intn, 1+i%3)}
		joins(t, s, term(slices.Concat(around(s.Head), letters(string(s.Lit)), around(s.Tail))))
	}
}

// P20.2: what Find gives for a simple term is joined to that term.
func TestJoinOfFind(t *testing.T) {
	r := rand.New(rand.NewSource(22))
	there := 0
	for i := range 20000 {
		x := fold.Simple(grow(r, 2+i%5))
		if s, ok := liter.Find(x); ok {
			there++
			joins(t, s, x)
		}
	}
	if there < 5000 {
		t.Errorf("%d of 20000 have a literal", there)
	}
	// Where a term isn't simple, it is joined to what it means all the same, but for what is nothing.
	s, _ := liter.Find(sample.Cat(sample.Op(api.OpEmpty), sample.Set("a"), sample.Set("b")))
	joins(t, s, sample.TermOf("ab"))
}

// P1: terms that aren't right; nothing is asked but that the calls end.
func TestWrong(t *testing.T) {
	wrong := append(sample.WrongTerms(), api.Term{})
	for i, x := range wrong {
		liter.Find(x)
		liter.Find(sample.Cat(append(run(i%5), x)...))
		liter.Find(sample.Cat(append(run(i%210), x, x, wrong[i/2])...))
		liter.Join(api.Split{Head: x, Lit: []byte("ab"), Tail: wrong[i/3]})
		liter.Join(api.Split{Head: wrong[i/2], Tail: x})
	}
}

// P20.2, P2: what is handed in isn't changed, its spare room neither; answers are new memory, and the same at a second time.
func TestMemory(t *testing.T) {
	r := rand.New(rand.NewSource(23))
	for i := range 5000 {
		x := sample.Roomy(grow(r, 2+i%5))
		before := sample.Roomy(x)
		one, ok := liter.Find(x)
		two, again := liter.Find(x)
		if !sample.Identical(x, before) || ok != again || !same(one, two) || !sample.Apart(x, one.Head, one.Tail, two.Head, two.Tail) {
			t.Fatalf("%v, before %v: %v, then %v", x, before, one, two)
		}
		kept := string(one.Lit)
		sample.Overwrite([][]byte{two.Lit})
		if string(one.Lit) != kept {
			t.Fatalf("%v: shared memory", x)
		}
		s := api.Split{Head: sample.Roomy(sample.Grow(r.Intn, 3)), Lit: append([]byte("abc"), "spare"...)[:i%4], Tail: x}
		head := sample.Roomy(s.Head)
		first, second := liter.Join(s), liter.Join(s)
		if !sample.Identical(s.Head, head) || !sample.Identical(x, before) || string(s.Lit[:8]) != "abcspare" || !sample.Same(first, second) || !sample.Apart(s.Head, s.Tail, first, second) {
			t.Fatalf("%v: %v, then %v", s, first, second)
		}
		if same := (api.Split{Head: x, Tail: x}); !sample.Apart(x, liter.Join(same)) {
			t.Fatalf("%v: shared memory", x)
		}
	}
}

// P1: terms of many levels, and of long rows, end soon.
func TestGreat(t *testing.T) {
	const many = 1<<16 - 3
	a, dot := sample.Set("a"), sample.Op(api.OpDot)
	deep := sample.Nest(a, many, func(x api.Term) api.Term { return sample.Rep(x, 0, 1) })
	finds(t, sample.Cat(deep, a, a, deep), api.Split{Head: deep, Lit: []byte("aa"), Tail: deep}, true)
	joins(t, api.Split{Head: deep, Lit: []byte("aa"), Tail: deep}, sample.Cat(deep, a, a, deep))
	finds(t, deep, api.Split{}, false)
	nested := sample.Nest(sample.TermOf("ab"), many, func(x api.Term) api.Term { return sample.Cat(x, a) })
	finds(t, nested, api.Split{}, false)
	finds(t, sample.Cat(nested, a, a), api.Split{Head: nested, Lit: []byte("aa"), Tail: sample.Op(api.OpEmpty)}, true)
	long := sample.Many(a, 1<<18)
	lit := bytes.Repeat([]byte("a"), 200)
	finds(t, sample.Cat(long...), api.Split{Head: sample.Op(api.OpEmpty), Lit: lit, Tail: sample.Cat(long[200:]...)}, true)
	dotted := slices.Repeat([]api.Term{a, dot}, 1<<18)
	finds(t, sample.Cat(dotted...), api.Split{}, false)
	finds(t, sample.Cat(append(dotted, a, a)...), api.Split{Head: sample.Cat(dotted...), Lit: []byte("aa"), Tail: sample.Op(api.OpEmpty)}, true)
	joins(t, api.Split{Head: sample.Cat(dotted...), Lit: bytes.Repeat(lit, 1<<10), Tail: dot}, sample.Cat(slices.Concat(dotted, sample.Many(a, 200<<10), []api.Term{dot})...))
}
