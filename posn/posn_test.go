package posn_test

import (
	"fmt"
	"math"
	"math/rand"
	"slices"
	"strings"
	"testing"

	"riddle/api"
	layer10 "riddle/ends"
	"riddle/posn"
	"riddle/sample"
	"riddle/syntax"
	"riddle/width"
)

// read gives the term of a pattern.
func read(t *testing.T, text string) api.Term {
	t.Helper()
	x, code, at := syntax.Parse([]byte(text))
	if code != api.OK {
		t.Fatalf("%q: %v, %d", text, code, at)
	}
	return x
}

// build gives the graph of a term that has one.
func build(t *testing.T, x api.Term) api.Graph {
	t.Helper()
	g, code := posn.Build(x)
	if code != api.OK {
		t.Fatalf("%.300s: %v", fmt.Sprint(x), code)
	}
	return g
}

// refuses holds that a term has no graph, and why.
func refuses(t *testing.T, x api.Term, want api.Errno) {
	t.Helper()
	if g, code := posn.Build(x); code != want || !sample.SameGraph(g, api.Graph{}) {
		t.Errorf("%.300s: %.300s, %v, not %v", fmt.Sprint(x), sample.Told(g), code, want)
	}
}

// matches holds the ends of a graph from all places of a text, and from around it, against others.
func matches(t *testing.T, g api.Graph, text string, want func(i int) []int) {
	t.Helper()
	for i := -1; i <= len(text)+1; i++ {
		var list []int
		if i >= 0 && i <= len(text) {
			list = want(i)
		}
		if got := posn.From(g, []byte(text), i); !slices.Equal(got, list) {
			t.Fatalf("%s in %q from %d: %v, not %v", sample.Told(g), text, i, got, list)
		}
	}
}

// letters gives a text of few letters.
func letters(r *rand.Rand, most int) string {
	var b strings.Builder
	for range r.Intn(most + 1) {
		b.WriteByte("abA\n\xff"[r.Intn(5)])
	}
	return b.String()
}

func TestExamples(t *testing.T) {
	for text, want := range map[string]string{
		"(a|b)*c": "abc 0,1,2 2 0,1,2 0,1,2 -",
		"a{0,2}":  "aa 0 0,1 1 - empty",
	} {
		if got := sample.Told(build(t, read(t, text))); got != want {
			t.Errorf("%q: %s, not %s", text, got, want)
		}
	}
}

// P11.1: graphs told by hand.
func TestByHand(t *testing.T) {
	for text, want := range map[string]string{
		"":                    " - - empty",
		"()":                  " - - empty",
		"a":                   "a 0 0 -",
		"[b-a]":               "<> 0 0 -",
		"[bd]":                "<bd> 0 0 -",
		"abc":                 "abc 0 2 1 2 -",
		"ab|c":                "abc 0,2 1,2 1 - -",
		"a|()|b":              "ab 0,1 0,1 - - empty",
		"a?":                  "a 0 0 - empty",
		"a*":                  "a 0 0 0 empty",
		"a+":                  "a 0 0 0",
		"a{0}":                " - - empty",
		"a{1}":                "a 0 0 -",
		"a{3}":                "aaa 0 2 1 2 -",
		"a{0,1}":              "a 0 0 - empty",
		"a{0,3}":              "aaa 0 0,1,2 1 2 - empty",
		"a{2,4}":              "aaaa 0 1,2,3 1 2 3 -",
		"a{1,}":               "a 0 0 0",
		"a{0,}":               "a 0 0 0 empty",
		"a{3,}":               "aaa 0 2 1 2 2",
		"(a?){2}":             "aa 0,1 0,1 1 - empty",
		"(a?){2,}":            "aa 0,1 0,1 1 1 empty",
		"(a?){1,2}":           "aa 0,1 0,1 1 - empty",
		"(a*){2}":             "aa 0,1 0,1 0,1 1 empty",
		"(ab?){2}":            "abab 0 2,3 1,2 2 3 -",
		"(a|b){0,2}":          "abab 0,1 0,1,2,3 2,3 2,3 - - empty",
		"(ab){1,2}c":          "ababc 0 4 1 2,4 3 4 -",
		"a?b?c?":              "abc 0,1,2 0,1,2 1,2 2 - empty",
		"ab?c?d":              "abcd 0 3 1,2,3 2,3 3 -",
		"(a|b?)(c|d?)":        "abcd 0,1,2,3 0,1,2,3 2,3 2,3 - - empty",
		"(a?b?)+c":            "abc 0,1,2 2 0,1,2 0,1,2 -",
		"(a[b-a]?)*":          "a<> 0 0,1 0,1 0 empty",
		"[b-a]*a":             "<>a 0,1 1 0,1 -",
		"((a{2}){2}){1,2}":    "aaaaaaaa 0 3,7 1 2 3 4 5 6 7 -",
		"(a{2,}b)*":           "aab 0 2 1 1,2 0 empty",
		"(){200}":             " - - empty",
		"((a{200}){200}){0}b": "b 0 0 -",
	} {
		if got := sample.Told(build(t, read(t, text))); got != want {
			t.Errorf("%q: %s, not %s", text, got, want)
		}
	}
}

// P11.1: what matches nothing at all has no positions, and nothing goes on beyond it.
func TestNone(t *testing.T) {
	none, empty, a, b := op(api.OpNone), op(api.OpEmpty), set("a"), set("b")
	for _, c := range []struct {
		x    api.Term
		want string
	}{
		{none, " - -"},
		{cat(none, none), " - -"},
		{cat(none, empty), " - -"},
		{alt(none, empty), " - - empty"},
		{alt(none, a), "a 0 0 -"},
		{cat(a, none), "a 0 - -"},
		{cat(none, a), "a - 0 -"},
		{cat(a, none, b), "ab 0 1 - -"},
		{cat(rep(a, 0, 1), none, b), "ab 0 1 - -"},
		{cat(a, none, rep(b, 0, 1)), "ab 0 1 - -"},
		{cat(a, alt(none, empty), b), "ab 0 1 1 -"},
		{rep(none, 0, 0), " - - empty"},
		{rep(none, 0, 1), " - - empty"},
		{rep(none, 0, 7), " - - empty"},
		{rep(none, 0, -1), " - - empty"},
		{rep(none, 1, -1), " - -"},
		{rep(none, 1, 1), " - -"},
		{rep(none, 2, 3), " - -"},
		{cat(a, rep(none, 0, 3), b), "ab 0 1 1 -"},
		{rep(cat(a, none), 0, -1), "a 0 - - empty"},
		{rep(cat(a, none), 2, 3), "aaa 0 - - - -"},
		{rep(cat(none, a), 2, -1), "aa - 1 - -"},
		{rep(alt(cat(a, none), b), 2, 2), "abab 0,1 3 - 2,3 - -"},
	} {
		if got := sample.Told(build(t, c.x)); got != c.want {
			t.Errorf("%v: %s, not %s", c.x, got, c.want)
		}
	}
}

// P11.1: a dot is the set of all bytes but 10.
func TestDot(t *testing.T) {
	g := build(t, rep(op(api.OpDot), 2, 2))
	if len(g.Sets) != 2 || g.Sets[0] != g.Sets[1] {
		t.Fatalf("%v", g)
	}
	for b := range 256 {
		if has := g.Sets[0][b/64]>>(b%64)&1 == 1; has != (b != 10) {
			t.Errorf("%d: %v", b, has)
		}
	}
}

// P11.1: what is refused: anchors, wherever they stand, ahead of too many positions.
func TestRefused(t *testing.T) {
	a, none := set("a"), op(api.OpNone)
	many := rep(rep(a, 200, 200), 200, 200)
	for _, anchor := range []api.Term{op(api.OpBegin), op(api.OpEnd)} {
		for _, x := range []api.Term{anchor, cat(a, anchor), cat(none, anchor), alt(anchor, a), rep(anchor, 0, 0), rep(anchor, 2, 2), rep(cat(a, rep(anchor, 0, 1)), 0, -1), cat(many, anchor), cat(anchor, many)} {
			refuses(t, x, api.ErrArg)
		}
	}
	for _, x := range []api.Term{many, cat(rep(a, 200, 200), rep(a, 200, 200), a), alt(sample.Many(a, 401)...), rep(cat(a, a, a), 134, 134), rep(cat(a, a, a), 134, -1), rep(cat(a, a, a), 0, 134), rep(set(""), 200, 200), cat(none, many), rep(many, 0, -1)} {
		if width.Positions(x) <= api.MaxPositions {
			build(t, x)
			continue
		}
		refuses(t, x, api.ErrPositions)
		refuses(t, rep(x, 0, 1), api.ErrPositions)
		if got := sample.Told(build(t, rep(x, 0, 0))); got != " - - empty" {
			t.Errorf("0 to 0: %s", got)
		}
	}
	// Sums and products that would wrap round.
	refuses(t, sample.Nest(a, 1000, func(x api.Term) api.Term { return rep(x, 128, 128) }), api.ErrPositions)
}

// P11.1: as many positions as there may be, in all forms.
func TestMost(t *testing.T) {
	a := set("a")
	for _, x := range []api.Term{
		rep(rep(a, 200, 200), 2, 2), rep(rep(a, 2, 2), 200, 200), rep(rep(a, 0, 2), 0, 200), rep(rep(alt(a, a), 0, -1), 200, 200), rep(cat(a, a), 200, -1), rep(cat(rep(a, 0, 1), rep(a, 0, 1)), 0, 200),
		cat(sample.Many(a, 400)...), alt(sample.Many(a, 400)...), rep(alt(sample.Many(a, 400)...), 0, -1), cat(sample.Many(rep(a, 0, -1), 400)...), rep(rep(rep(a, 0, 20), 0, 5), 1, 4),
	} {
		g := build(t, x)
		if len(g.Sets) != 400 || !sample.SameGraph(g, model(x)) {
			t.Errorf("%.300s: %d positions", fmt.Sprint(x), len(g.Sets))
		}
		refuses(t, cat(x, a), api.ErrPositions)
		refuses(t, alt(set(""), x), api.ErrPositions)
	}
}

// P11.1: all kinds of kids, with all kinds of bounds, against the model.
func TestRepeats(t *testing.T) {
	a, b := set("a"), set("b")
	kids := []api.Term{op(api.OpNone), op(api.OpEmpty), a, set(""), cat(a, b), alt(a, b), rep(a, 0, 1), rep(a, 0, -1), rep(a, 1, -1), rep(a, 0, 2), cat(rep(a, 0, 1), b), cat(a, rep(b, 0, 1)), cat(a, op(api.OpNone)), alt(cat(a, b), rep(b, 2, 3))}
	for _, kid := range kids {
		for least := range 5 {
			for most := -1; most < 7; most++ {
				if most != -1 && most < least {
					continue
				}
				x := rep(kid, least, most)
				for _, y := range []api.Term{x, cat(b, x, a), rep(x, 0, -1), rep(x, 2, 3)} {
					if got, want := build(t, y), model(y); !sample.SameGraph(got, want) {
						t.Errorf("%v: %s, not %s", y, sample.Told(got), sample.Told(want))
					}
				}
			}
		}
	}
}

// P11.1 and P11.3: grown terms against the model, and what their graphs match against what they match.
func TestGrown(t *testing.T) {
	r := rand.New(rand.NewSource(11))
	some := 0
	for i := range 20000 {
		x := sample.Free(r.Intn, 2+i%5)
		g := build(t, x)
		if want := model(x); !sample.SameGraph(g, want) || posn.Check(g) != api.OK {
			t.Fatalf("%v: %s, not %s", x, sample.Told(g), sample.Told(want))
		}
		text := letters(r, 7)
		table := sample.Match(x, text)
		matches(t, g, text, func(i int) []int {
			var want []int
			for j := range len(text) + 1 {
				if table[i]>>j&1 == 1 {
					want = append(want, j)
				}
			}
			some += len(want)
			return want
		})
	}
	if some < 10000 {
		t.Errorf("only %d matches", some)
	}
}

// P11.3: From of Build is layer 10's From, in long texts.
func TestLayer10(t *testing.T) {
	r := rand.New(rand.NewSource(12))
	for i := range 600 {
		x := sample.Free(r.Intn, 3+i%4)
		if g, code := posn.Build(x); code == api.OK {
			text := letters(r, 120)
			matches(t, g, text, func(i int) []int { return layer10.From(x, []byte(text), i) })
		}
	}
}

// P11.3: graphs that are of no term, against the model; their sets have bytes of all words.
func TestFrom(t *testing.T) {
	r := rand.New(rand.NewSource(13))
	some := 0
	for i := range 10000 {
		g := sample.Graph(r.Intn, i%9)
		text := strings.NewReplacer("\n", "\x00").Replace(letters(r, 12))
		matches(t, g, text, func(i int) []int {
			list := ends(g, []byte(text), i)
			some += len(list)
			return list
		})
	}
	if some < 10000 {
		t.Errorf("only %d matches", some)
	}
	for b := range 256 {
		g := api.Graph{Sets: []api.Class{sample.Class(string([]byte{byte(b)}))}, First: []int{0}, Last: []int{0}, Follow: [][]int{nil}}
		for c := range 256 {
			if got := len(posn.From(g, []byte{byte(c)}, 0)); (got == 1) != (b == c) {
				t.Fatalf("%d in %d: %d", b, c, got)
			}
		}
	}
}

// P11.3: no place of a text.
func TestPlaces(t *testing.T) {
	g := build(t, read(t, "a*"))
	for _, i := range []int{math.MinInt, -1, 3, 4, math.MaxInt} {
		if got := posn.From(g, []byte("aa"), i); len(got) != 0 {
			t.Errorf("%d: %v", i, got)
		}
	}
	if got := fmt.Sprint(posn.From(g, nil, 0), posn.From(g, []byte("aa"), 0), posn.From(g, []byte("aa"), 2), posn.From(api.Graph{}, nil, 0)); got != "[0] [0 1 2] [2] []" {
		t.Error(got)
	}
}

// P11.2: graphs that are right, and what makes them wrong.
func TestCheck(t *testing.T) {
	right := func() api.Graph {
		return api.Graph{Sets: make([]api.Class, 3), First: []int{0, 2}, Last: []int{1, 2}, Follow: [][]int{{0, 1, 2}, nil, {1}}, Empty: true}
	}
	for _, g := range []api.Graph{{}, {Empty: true}, {Sets: []api.Class{}, First: []int{}, Last: []int{}, Follow: [][]int{}}, right(), {Sets: make([]api.Class, 400), Follow: make([][]int, 400), First: []int{399}}} {
		if code := posn.Check(g); code != api.OK {
			t.Errorf("%v: %v", g, code)
		}
	}
	for _, g := range sample.WrongGraphs() {
		g.Empty = true
		if code := posn.Check(g); code != api.ErrArg {
			t.Errorf("%v: %v", g, code)
		}
		if got := posn.From(g, []byte("aaa"), 0); len(got) != 0 {
			t.Errorf("%v: %v", g, got)
		}
	}
}

// P1: terms that aren't right; nothing is asked but that Build ends.
func TestWrong(t *testing.T) {
	a := set("a")
	most := rep(cat(a, a), 200, 200)
	for _, x := range sample.WrongTerms() {
		for _, y := range []api.Term{x, cat(x, a), cat(most, x), cat(x, most, most, most), rep(x, 200, 200), rep(x, 0, -1), rep(cat(x, x), 3, 5), alt(x, x, most)} {
			posn.Build(y)
		}
	}
}

// P11.3: what is handed in isn't changed, and answers are new memory.
func TestMemory(t *testing.T) {
	r := rand.New(rand.NewSource(14))
	for i := range 3000 {
		x := sample.Roomy(sample.Free(r.Intn, 2+i%4))
		before := sample.Roomy(x)
		one, code := posn.Build(x)
		two, _ := posn.Build(x)
		if !sample.Identical(x, before) || !sample.SameGraph(one, two) || !sample.ApartGraphs(one, two) {
			t.Fatalf("%v, before %v: %v, then %v", x, before, one, two)
		}
		if code != api.OK {
			continue
		}
		g, text := sample.RoomyGraph(one), append(make([]byte, 0, 20), letters(r, 9)...)
		g2, text2 := sample.RoomyGraph(g), slices.Clone(text[:20])
		posn.Check(g)
		ends, again := posn.From(g, text, 0), posn.From(g, text, 0)
		if !sample.IdenticalGraphs(g, g2) || !slices.Equal(text[:20], text2) || !slices.Equal(ends, again) {
			t.Fatalf("%v, before %v", g, g2)
		}
		if !sample.ApartGraphs(g, api.Graph{First: ends, Last: again}) {
			t.Fatalf("%v: shared memory", g)
		}
	}
}

// P1 and P11.1: terms of many levels, and of many kids, end soon.
func TestGreat(t *testing.T) {
	a, none, empty, many := set("a"), op(api.OpNone), op(api.OpEmpty), 1<<16-3
	wide := alt(sample.Many(a, 400)...)
	for i, into := range []func(x api.Term) api.Term{
		func(x api.Term) api.Term { return cat(empty, x) },
		func(x api.Term) api.Term { return cat(x, empty) },
		func(x api.Term) api.Term { return rep(x, 1, 1) },
		func(x api.Term) api.Term { return rep(x, 1, -1) },
		func(x api.Term) api.Term { return rep(x, 0, -1) },
		func(x api.Term) api.Term { return rep(x, 0, 1) },
		func(x api.Term) api.Term { return alt(x, none) },
		func(x api.Term) api.Term { return alt(none, x) },
	} {
		for _, x := range []api.Term{empty, wide} {
			deep, shallow := build(t, sample.Nest(x, many, into)), model(sample.Nest(x, 2, into))
			if !sample.SameGraph(deep, shallow) {
				t.Errorf("%d, %v: %s, not %s", i, x, sample.Told(deep), sample.Told(shallow))
			}
		}
		deep := sample.Nest(a, many, into)
		if got, want := build(t, rep(cat(deep, deep), 200, 200)), model(rep(cat(sample.Nest(a, 2, into), sample.Nest(a, 2, into)), 200, 200)); !sample.SameGraph(got, want) {
			t.Errorf("%d: %s, not %s", i, sample.Told(got), sample.Told(want))
		}
	}
	// Laid out, these would be more than can be counted.
	for _, x := range []api.Term{empty, none, rep(a, 0, 0)} {
		deep := sample.Nest(x, many, func(x api.Term) api.Term { return rep(x, 200, 200) })
		if got, want := sample.Told(build(t, deep)), sample.Told(model(x)); got != want {
			t.Errorf("%v: %s, not %s", x, got, want)
		}
	}
	loop, kids := rep(wide, 0, -1), 1<<18
	for _, x := range []api.Term{cat(append([]api.Term{loop}, sample.Many(empty, kids)...)...), cat(append(sample.Many(empty, kids), loop)...), alt(append(sample.Many(none, kids), loop)...), rep(cat(append(sample.Many(empty, kids), loop)...), 1, 1)} {
		if !sample.SameGraph(build(t, x), model(loop)) {
			t.Errorf("kids without positions change a graph")
		}
	}
}
