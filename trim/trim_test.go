package trim_test

import (
	"fmt"
	"math/rand"
	"slices"
	"testing"

	"riddle/api"
	"riddle/posn"
	"riddle/sample"
	"riddle/trim"
)

// smaller gives what Trim or Merge makes of a graph that it takes.
func smaller(t *testing.T, call func(api.Graph) (api.Graph, api.Errno), g api.Graph) api.Graph {
	t.Helper()
	out, code := call(g)
	if code != api.OK {
		t.Fatalf("%s: %v", sample.Told(g), code)
	}
	return out
}

func TestExamples(t *testing.T) {
	if got := sample.Told(smaller(t, trim.Trim, sample.GraphOf("ab|c[b-a]"))); got != "ab 0 1 1 -" {
		t.Error(got)
	}
	if got := sample.Told(smaller(t, trim.Merge, sample.GraphOf("ac|bc"))); got != "acb 0,2 1 1 - 1" {
		t.Error(got)
	}
}

// P12.2: trimmed graphs of patterns, told by hand.
func TestTrimByHand(t *testing.T) {
	for text, want := range map[string]string{
		"":              " - - empty",
		"a":             "a 0 0 -",
		"abc":           "abc 0 2 1 2 -",
		"[b-a]":         " - -",
		"[b-a]?":        " - - empty",
		"[b-a]*a":       "a 0 0 -",
		"a[b-a]*b":      "ab 0 1 1 -",
		"a[b-a]b":       " - -",
		"a[b-a]b|c":     "c 0 0 -",
		"(a[b-a]|b)*":   "b 0 0 0 empty",
		"(a|[b-a]b)c":   "ac 0 1 1 -",
		"a([b-a]b|c)d":  "acd 0 2 1 2 -",
		"a(b|c[b-a])*d": "abd 0 2 1,2 1,2 -",
		"([b-a]a)?b":    "b 0 0 -",
		"a(b[b-a]){2}":  " - -",
		"a(b[b-a])?":    "a 0 0 -",
	} {
		if got := sample.Told(smaller(t, trim.Trim, sample.GraphOf(text))); got != want {
			t.Errorf("%q: %s, not %s", text, got, want)
		}
	}
}

// sketch gives a graph of the sets of single bytes.
func sketch(text string, first, last []int, follow ...[]int) api.Graph {
	g := api.Graph{First: first, Last: last, Follow: follow}
	for i := range text {
		g.Sets = append(g.Sets, sample.Class(text[i:i+1]))
	}
	return g
}

// P12.2: what can't be come to, and of what nothing comes, though it goes on for ever.
func TestTrimLoops(t *testing.T) {
	for i, c := range []struct {
		g    api.Graph
		want string
	}{
		{sketch("abc", []int{0}, []int{0}, []int{1}, []int{2}, []int{1}), "a 0 0 -"},                  // it goes on without an end
		{sketch("abc", []int{2}, []int{2}, []int{1}, []int{0, 2}, nil), "c 0 0 -"},                    // it is never begun
		{sketch("abcd", []int{3}, []int{0}, []int{0, 3}, nil, []int{1}, []int{0, 2}), "ad 1 0 0,1 0"}, // backwards, and the others far from an end
		{sketch("abcd", []int{3}, []int{0}, nil, []int{0}, []int{1}, []int{2}), "abcd 3 0 - 0 1 2"},   // against their order
		{sketch("ab", nil, []int{0, 1}, []int{1}, []int{0}), " - -"},
		{sketch("ab", []int{0, 1}, nil, []int{1}, []int{0}), " - -"},
		{sketch("aaa", []int{0, 1, 2}, []int{1}, nil, nil, nil), "a 0 0 -"},
	} {
		if got := sample.Told(smaller(t, trim.Trim, c.g)); got != c.want {
			t.Errorf("%d: %s, not %s", i, got, c.want)
		}
	}
}

// P12.3: merged graphs of patterns, told by hand.
func TestMergeByHand(t *testing.T) {
	for text, want := range map[string]string{
		"":                " - - empty",
		"a|a|a":           "a 0 0 -",
		"a|b":             "ab 0,1 0,1 - -",
		"aa":              "aa 0 1 1 -",
		"ab|cb":           "abc 0,2 1 1 - 1",
		"ab|ab":           "ab 0 1 1 -",
		"abc|abc|abc":     "abc 0 2 1 2 -",
		"ab|a":            "aba 0,2 1,2 1 - -",
		"a+|a+":           "aa 0,1 0,1 0 1",
		"(a|a)*":          "a 0 0 0 empty",
		"(a|b)c(a|b)c":    "abcabc 0,1 5 2 2 3,4 5 5 -",
		"x(abc|dbc|ec)":   "xabcde 0 3 1,4,5 2 3 - 2 3",
		"[ab]c|[ab]c|ac":  "<ab>ca 0,2 1 1 - 1",
		"[b-a]|[b-a]":     "<> 0 0 -",
		"a?a?":            "aa 0,1 0,1 1 - empty",
		"(ab|b)*":         "ab 0,1 1 1 0,1 empty",
		"(ab|cb)*":        "abc 0,2 1 1 0,2 1 empty",
		"ax|by|cx|ay|bx":  "axbycab 0,2,4,5,6 1,3 1 - 3 - 1 3 1",
		"(a|b)(a|b)(a|b)": "ababab 0,1 4,5 2,3 2,3 4,5 4,5 - -",
	} {
		if got := sample.Told(smaller(t, trim.Merge, sample.GraphOf(text))); got != want {
			t.Errorf("%q: %s, not %s", text, got, want)
		}
	}
}

// P12.3: the set, what follows and whether it is one of Last must all be the same; what comes ahead needn't.
func TestMergeAlike(t *testing.T) {
	for i, c := range []struct {
		g    api.Graph
		want string
	}{
		{sketch("aa", []int{0}, []int{0, 1}, nil, nil), "a 0 0 -"},
		{sketch("aa", nil, nil, nil, nil), "a - - -"},
		{sketch("aa", []int{0, 1}, []int{0}, nil, nil), "aa 0,1 0 - -"},
		{sketch("ab", []int{0, 1}, []int{0, 1}, nil, nil), "ab 0,1 0,1 - -"},
		{sketch("aa", []int{1}, []int{0, 1}, []int{0, 1}, []int{0, 1}), "a 0 0 0"},
		{sketch("aa", []int{1}, []int{0, 1}, []int{0}, []int{0, 1}), "aa 1 0,1 0 0,1"},
		{sketch("aa", []int{1}, []int{0, 1}, []int{1}, []int{0}), "aa 1 0,1 1 0"},
		{sketch("baa", []int{0}, []int{1, 2}, []int{1, 2}, nil, nil), "ba 0 1 1 -"},
		{sketch("baac", []int{0}, []int{3}, []int{2}, []int{3}, []int{3}, nil), "bac 0 2 1 2 -"},
		// The least one stands for both, though what follows is sorted anew then.
		{sketch("abcb", []int{2}, []int{1, 3}, []int{2, 3}, nil, []int{0, 2, 3}, nil), "abc 2 1 1,2 - 0,1,2"},
	} {
		if got := sample.Told(smaller(t, trim.Merge, c.g)); got != c.want {
			t.Errorf("%d: %s, not %s", i, got, c.want)
		}
	}
}

// modelTrim trims a graph by the document's words.
func modelTrim(g api.Graph) api.Graph {
	n := len(g.Sets)
	counts := func(p int) bool { return g.Sets[p] != api.Class{} }
	to, of := make([]bool, n), make([]bool, n)
	// As many rounds as there are positions reach all of them.
	for range n + 1 {
		for p := range n {
			to[p] = to[p] || counts(p) && slices.Contains(g.First, p)
			of[p] = of[p] || counts(p) && slices.Contains(g.Last, p)
			for _, q := range g.Follow[p] {
				to[q] = to[q] || counts(q) && to[p]
				of[p] = of[p] || counts(p) && of[q]
			}
		}
	}
	number := map[int]int{}
	out := api.Graph{Empty: g.Empty}
	for p := range n {
		if to[p] && of[p] {
			number[p] = len(out.Sets)
			out.Sets = append(out.Sets, g.Sets[p])
		}
	}
	pick := func(list []int) []int {
		var out []int
		for _, p := range list {
			if k, ok := number[p]; ok {
				out = append(out, k)
			}
		}
		return out
	}
	out.First, out.Last = pick(g.First), pick(g.Last)
	for p := range n {
		if to[p] && of[p] {
			out.Follow = append(out.Follow, pick(g.Follow[p]))
		}
	}
	return out
}

// modelMerge merges a graph by the document's words, one pair at a time.
func modelMerge(g api.Graph) api.Graph {
	for q := range g.Sets {
		for p := range q {
			if g.Sets[p] == g.Sets[q] && slices.Equal(g.Follow[p], g.Follow[q]) && slices.Contains(g.Last, p) == slices.Contains(g.Last, q) {
				return modelMerge(joined(g, p, q))
			}
		}
	}
	return g
}

// joined gives a graph in which p stands for q, too, and the numbers above q are one less.
func joined(g api.Graph, p, q int) api.Graph {
	list := func(old []int) []int {
		var out []int
		for _, k := range old {
			switch {
			case k == q:
				k = p
			case k > q:
				k--
			}
			out = append(out, k)
		}
		slices.Sort(out)
		return slices.Compact(out)
	}
	out := api.Graph{First: list(g.First), Last: list(g.Last), Empty: g.Empty}
	for k := range g.Sets {
		if k != q {
			out.Sets, out.Follow = append(out.Sets, g.Sets[k]), append(out.Follow, list(g.Follow[k]))
		}
	}
	return out
}

// texts gives some texts of few letters.
func texts(r *rand.Rand) [][]byte {
	out := [][]byte{{}}
	for range 3 {
		var text []byte
		for range 1 + r.Intn(8) {
			text = append(text, "abab\x00\xff"[r.Intn(6)])
		}
		out = append(out, text)
	}
	return out
}

// P12.2, P12.3, P12.4: grown graphs against the models; done again, nothing changes; and they match what they matched.
func TestGrown(t *testing.T) {
	r := rand.New(rand.NewSource(12))
	trimmed, merged := 0, 0
	for i := range 30000 {
		g := sample.Graph(r.Intn, i%10)
		one, two := smaller(t, trim.Trim, g), smaller(t, trim.Merge, g)
		if want := modelTrim(g); !sample.SameGraph(one, want) {
			t.Fatalf("%s: %s, not %s", sample.Told(g), sample.Told(one), sample.Told(want))
		}
		if want := modelMerge(g); !sample.SameGraph(two, want) {
			t.Fatalf("%s: %s, not %s", sample.Told(g), sample.Told(two), sample.Told(want))
		}
		if again := smaller(t, trim.Trim, one); !sample.SameGraph(again, one) {
			t.Fatalf("%s: %s", sample.Told(one), sample.Told(again))
		}
		if again := smaller(t, trim.Merge, two); !sample.SameGraph(again, two) {
			t.Fatalf("%s: %s", sample.Told(two), sample.Told(again))
		}
		for _, h := range []api.Graph{one, two, smaller(t, trim.Merge, one), smaller(t, trim.Trim, two)} {
			matchSame(t, r, g, h)
		}
		trimmed, merged = trimmed+len(g.Sets)-len(one.Sets), merged+len(g.Sets)-len(two.Sets)
	}
	if trimmed < 10000 || merged < 10000 {
		t.Errorf("%d trimmed, %d merged", trimmed, merged)
	}
}

// matchSame holds what a graph matches in some texts against what another one does.
func matchSame(t *testing.T, r *rand.Rand, g, h api.Graph) {
	t.Helper()
	if posn.Check(h) != api.OK {
		t.Fatalf("%s isn't right", sample.Told(h))
	}
	for _, text := range texts(r) {
		i := r.Intn(len(text) + 1)
		if got, want := posn.From(h, text, i), posn.From(g, text, i); !slices.Equal(got, want) {
			t.Fatalf("%s, once %s, in %q from %d: %v, not %v", sample.Told(h), sample.Told(g), text, i, got, want)
		}
	}
}

// P12.2, P12.3, P12.4: the same of the graphs of grown terms.
func TestTerms(t *testing.T) {
	r := rand.New(rand.NewSource(13))
	some := 0
	for i := range 20000 {
		g, code := posn.Build(sample.Grow(r.Intn, 2+i%4))
		if code != api.OK || len(g.Sets) > 60 {
			continue
		}
		some++
		one, two := smaller(t, trim.Trim, g), smaller(t, trim.Merge, g)
		if !sample.SameGraph(one, modelTrim(g)) || !sample.SameGraph(two, modelMerge(g)) {
			t.Fatalf("%s: %s, %s", sample.Told(g), sample.Told(one), sample.Told(two))
		}
		matchSame(t, r, g, one)
		matchSame(t, r, g, two)
	}
	if some < 5000 {
		t.Errorf("only %d graphs", some)
	}
}

// P12.1: graphs that aren't right.
func TestWrong(t *testing.T) {
	for _, g := range sample.WrongGraphs() {
		for _, call := range []func(api.Graph) (api.Graph, api.Errno){trim.Trim, trim.Merge} {
			if out, code := call(g); code != api.ErrArg || !sample.SameGraph(out, api.Graph{}) {
				t.Errorf("%v: %v, %v", g, out, code)
			}
		}
	}
}

// P12.4: what is handed in isn't changed, and answers are new memory.
func TestMemory(t *testing.T) {
	r := rand.New(rand.NewSource(14))
	for i := range 3000 {
		g := sample.RoomyGraph(sample.Graph(r.Intn, i%10))
		before := sample.RoomyGraph(g)
		a, b, c, d := smaller(t, trim.Trim, g), smaller(t, trim.Merge, g), smaller(t, trim.Trim, g), smaller(t, trim.Merge, g)
		if !sample.IdenticalGraphs(g, before) || !sample.SameGraph(a, c) || !sample.SameGraph(b, d) {
			t.Fatalf("%v, before %v", g, before)
		}
		if !sample.ApartGraphs(g, a, b, c, d) {
			t.Fatalf("%v: shared memory", g)
		}
	}
}

// P1 and P12.3: the greatest graphs end soon, also if all positions come to be one.
func TestMost(t *testing.T) {
	all := make([]int, api.MaxPositions)
	for p := range all {
		all[p] = p
	}
	dense, chain, row := api.Graph{First: all, Last: all}, api.Graph{First: []int{0}}, api.Graph{First: []int{0}, Last: []int{399}}
	for p := range all {
		set := sample.Class("a")
		dense.Sets, chain.Sets, row.Sets = append(dense.Sets, set), append(chain.Sets, set), append(row.Sets, set)
		dense.Follow, chain.Follow, row.Follow = append(dense.Follow, all), append(chain.Follow, all[max(p, 1)-1:max(p, 1)]), append(row.Follow, all[min(p+1, 399):min(p+1, 399)+1])
	}
	for i, c := range []struct {
		g             api.Graph
		trims, merges int
	}{{dense, 400, 1}, {chain, 0, 1}, {row, 400, 400}} {
		one, two := smaller(t, trim.Trim, c.g), smaller(t, trim.Merge, c.g)
		if len(one.Sets) != c.trims || len(two.Sets) != c.merges || !sample.SameGraph(one, modelTrim(c.g)) {
			t.Errorf("%d: %d, %d positions", i, len(one.Sets), len(two.Sets))
		}
	}
	if got := fmt.Sprint(len(smaller(t, trim.Merge, sample.GraphOf("(a{0,200}){2}")).Sets)); got != "400" {
		t.Error(got)
	}
}
