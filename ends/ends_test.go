package ends_test

import (
	"fmt"
	"math"
	"math/rand"
	"slices"
	"testing"

	"riddle/api"
	"riddle/ends"
	"riddle/fold"
	"riddle/hoist"
	"riddle/sample"
	"riddle/syntax"
)

// Short names for the terms of samples.
var (
	set, op       = sample.Set, sample.Op
	cat, alt, rep = sample.Cat, sample.Alt, sample.Rep
)

// read gives the term of a pattern.
func read(t *testing.T, text string) api.Term {
	t.Helper()
	x, e, at := syntax.Parse([]byte(text))
	if e != api.OK {
		t.Fatalf("%q: %v, %d", text, e, at)
	}
	return x
}

// from holds what From gives against a list.
func from(t *testing.T, x api.Term, w string, i int, want ...int) {
	t.Helper()
	if got := ends.From(x, []byte(w), i); !slices.Equal(got, want) {
		t.Errorf("%v in %.20q from %d: %.100v, not %.100v", x.Op, w, i, fmt.Sprint(got), fmt.Sprint(want))
	}
}

// all holds what All gives against a list.
func all(t *testing.T, x api.Term, w string, want ...int) {
	t.Helper()
	if got := ends.All(x, []byte(w)); !slices.Equal(got, want) {
		t.Errorf("%v in %.20q: %.100v, not %.100v", x.Op, w, fmt.Sprint(got), fmt.Sprint(want))
	}
}

// span gives the numbers from one to another one.
func span(first, last int) []int {
	var out []int
	for i := first; i <= last; i++ {
		out = append(out, i)
	}
	return out
}

func TestExamples(t *testing.T) {
	from(t, read(t, "a+"), "aab", 0, 1, 2)
	all(t, read(t, "a?$"), "ba", 2)
	all(t, read(t, "b*"), "a", 0, 1)
}

// P10.1: each kind of term, at each place.
func TestKinds(t *testing.T) {
	w := "ab\na"
	for i, c := range []struct {
		x    api.Term
		from [5][]int
		all  []int
	}{
		{op(api.OpEmpty), [5][]int{{0}, {1}, {2}, {3}, {4}}, []int{0, 1, 2, 3, 4}},
		{op(api.OpNone), [5][]int{}, nil},
		{op(api.OpDot), [5][]int{{1}, {2}, nil, {4}, nil}, []int{1, 2, 4}},
		{op(api.OpBegin), [5][]int{{0}, nil, nil, nil, nil}, []int{0}},
		{op(api.OpEnd), [5][]int{nil, nil, nil, nil, {4}}, []int{4}},
		{set(""), [5][]int{}, nil},
		{set("a"), [5][]int{{1}, nil, nil, {4}, nil}, []int{1, 4}},
		{set("\nb"), [5][]int{nil, {2}, {3}, nil, nil}, []int{2, 3}},
		{cat(set("a"), set("b")), [5][]int{{2}, nil, nil, nil, nil}, []int{2}},
		{cat(set("b"), op(api.OpDot)), [5][]int{}, nil},
		{cat(set("b"), set("\n"), set("a"), op(api.OpEnd)), [5][]int{nil, {4}, nil, nil, nil}, []int{4}},
		{cat(op(api.OpEnd), op(api.OpBegin)), [5][]int{}, nil},
		{cat(set("a"), op(api.OpNone)), [5][]int{}, nil},
		{alt(set("a"), op(api.OpEmpty)), [5][]int{{0, 1}, {1}, {2}, {3, 4}, {4}}, []int{0, 1, 2, 3, 4}},
		{alt(op(api.OpNone), cat(set("a"), set("b")), set("a")), [5][]int{{1, 2}, nil, nil, {4}, nil}, []int{1, 2, 4}},
		{alt(op(api.OpBegin), op(api.OpEnd)), [5][]int{{0}, nil, nil, nil, {4}}, []int{0, 4}},
		{rep(op(api.OpDot), 0, -1), [5][]int{{0, 1, 2}, {1, 2}, {2}, {3, 4}, {4}}, []int{0, 1, 2, 3, 4}},
		{rep(op(api.OpDot), 1, -1), [5][]int{{1, 2}, {2}, nil, {4}, nil}, []int{1, 2, 4}},
		{rep(op(api.OpDot), 2, -1), [5][]int{{2}, nil, nil, nil, nil}, []int{2}},
		{rep(set("ab\n"), 2, 3), [5][]int{{2, 3}, {3, 4}, {4}, nil, nil}, []int{2, 3, 4}},
		{rep(set("ab\n"), 0, 1), [5][]int{{0, 1}, {1, 2}, {2, 3}, {3, 4}, {4}}, []int{0, 1, 2, 3, 4}},
		{rep(set("ab\n"), 0, 0), [5][]int{{0}, {1}, {2}, {3}, {4}}, []int{0, 1, 2, 3, 4}},
		{rep(set("ab\n"), 4, 200), [5][]int{{4}, nil, nil, nil, nil}, []int{4}},
		{rep(set("ab\n"), 5, 200), [5][]int{}, nil},
		{rep(op(api.OpNone), 0, 200), [5][]int{{0}, {1}, {2}, {3}, {4}}, []int{0, 1, 2, 3, 4}},
		{rep(op(api.OpNone), 1, -1), [5][]int{}, nil},
		{rep(op(api.OpEmpty), 200, 200), [5][]int{{0}, {1}, {2}, {3}, {4}}, []int{0, 1, 2, 3, 4}},
		{rep(op(api.OpBegin), 200, -1), [5][]int{{0}, nil, nil, nil, nil}, []int{0}},
		{rep(alt(op(api.OpBegin), set("ab\n")), 3, 3), [5][]int{{0, 1, 2, 3}, {4}, nil, nil, nil}, []int{0, 1, 2, 3, 4}},
		{rep(alt(op(api.OpEnd), set("ab\n")), 2, 2), [5][]int{{2}, {3}, {4}, {4}, {4}}, []int{2, 3, 4}},
	} {
		t.Run(fmt.Sprint(i), func(t *testing.T) {
			for at, want := range c.from {
				from(t, c.x, w, at, want...)
			}
			all(t, c.x, w, c.all...)
		})
	}
}

// P10.1: places that the text doesn't have; texts without bytes.
func TestPlaces(t *testing.T) {
	for _, x := range []api.Term{op(api.OpEmpty), op(api.OpBegin), op(api.OpEnd), set("a"), rep(set("a"), 0, -1), cat(op(api.OpEmpty), op(api.OpEmpty)), alt(op(api.OpEmpty), set("a"))} {
		for _, i := range []int{math.MinInt, -2, -1, 4, 5, 1 << 32, math.MaxInt} {
			from(t, x, "aaa", i)
		}
		from(t, x, "", -1)
		from(t, x, "", 1)
	}
	for _, x := range []api.Term{op(api.OpEmpty), op(api.OpBegin), op(api.OpEnd), cat(op(api.OpEnd), op(api.OpBegin)), rep(set("a"), 0, -1)} {
		from(t, x, "", 0, 0)
		all(t, x, "", 0)
		if got := ends.All(x, nil); !slices.Equal(got, []int{0}) {
			t.Errorf("%v: %v", x, got)
		}
	}
	from(t, set("a"), "", 0)
	all(t, op(api.OpDot), "")
}

// P10.1: each byte, against sets and dots.
func TestBytes(t *testing.T) {
	var w []byte
	for b := range 256 {
		w = append(w, byte(b))
	}
	var noFeed []int
	for b := range 256 {
		all(t, set(string([]byte{byte(b)})), string(w), b+1)
		if b != 10 {
			noFeed = append(noFeed, b+1)
		}
	}
	all(t, op(api.OpDot), string(w), noFeed...)
	all(t, set(string(w)), string(w), span(1, 256)...)
}

// told gives the places of a mask.
func told(mask uint) []int {
	var out []int
	for i := range 8 {
		if mask>>i&1 == 1 {
			out = append(out, i)
		}
	}
	return out
}

// text gives a short text.
func text(r *rand.Rand, chars string, longest int) string {
	var w []byte
	for range r.Intn(longest + 1) {
		w = append(w, chars[r.Intn(len(chars))])
	}
	return string(w)
}

// P10.1: grown terms, against a table of all places.
func TestGrown(t *testing.T) {
	r := rand.New(rand.NewSource(1))
	some := 0
	for i := range 8000 {
		x := sample.Grow(r.Intn, 2+i%6)
		for range 4 {
			w := text(r, []string{"ab", "abAB\n1\xff"}[r.Intn(2)], 7)
			m := sample.Match(x, w)
			any := uint(0)
			for i := range len(w) + 1 {
				from(t, x, w, i, told(m[i])...)
				any |= m[i]
			}
			all(t, x, w, told(any)...)
			if any != 0 && any != 1<<(len(w)+1)-1 {
				some++
			}
		}
		if t.Failed() {
			t.Fatalf("%v", x)
		}
	}
	if some < 1000 {
		t.Errorf("only %d times some places and not all", some)
	}
}

// P10.1: repeats within repeats, so that kids are asked many times, against a table of all places.
func TestRepeats(t *testing.T) {
	r := rand.New(rand.NewSource(2))
	for range 3000 {
		x := sample.Grow(r.Intn, 2)
		for range 1 + r.Intn(6) {
			least := r.Intn(4)
			x = rep(x, least, []int{-1, least, least + r.Intn(3)}[r.Intn(3)])
			switch r.Intn(5) {
			case 0:
				x = alt(x, sample.Grow(r.Intn, 2))
			case 1:
				x = cat(x, sample.Grow(r.Intn, 2))
			case 2:
				x = cat(sample.Grow(r.Intn, 2), x)
			}
		}
		for range 3 {
			w := text(r, "ab", 7)
			m := sample.Match(x, w)
			for i := range len(w) + 1 {
				from(t, x, w, i, told(m[i])...)
			}
			all(t, x, w, told(m[0]|m[1]|m[2]|m[3]|m[4]|m[5]|m[6]|m[7])...)
		}
		if t.Failed() {
			t.Fatalf("%v", x)
		}
	}
}

// P10.2 (and P8.3): what is simple has the same ends.
func TestSimple(t *testing.T) {
	r := rand.New(rand.NewSource(3))
	for i := range 5000 {
		x := sample.Grow(r.Intn, 2+i%5)
		y := fold.Simple(x)
		w := text(r, "abA\n1", 12)
		all(t, y, w, ends.All(x, []byte(w))...)
		for i := -1; i <= len(w)+1; i++ {
			from(t, y, w, i, ends.From(x, []byte(w), i)...)
		}
		if t.Failed() {
			t.Fatalf("%v", x)
		}
	}
}

// byParts gives the ends of a term by its four parts.
func byParts(p [4]api.Term, w []byte) []int {
	out := append(ends.All(p[0], w), ends.From(p[1], w, 0)...)
	if slices.Contains(ends.All(p[2], w), len(w)) || slices.Contains(ends.From(p[3], w, 0), len(w)) {
		out = append(out, len(w))
	}
	slices.Sort(out)
	return slices.Compact(out)
}

// P10.2 (and P9.3): the four parts have the ends of the term.
func TestParts(t *testing.T) {
	r := rand.New(rand.NewSource(4))
	told := 0
	for i := range 20000 {
		x := sample.Grow(r.Intn, 2+i%5)
		p, e := hoist.Hoist(x)
		if e != api.OK {
			continue
		}
		told++
		for range 3 {
			w := text(r, "abA\n", 12)
			all(t, x, w, byParts(p, []byte(w))...)
		}
		if t.Failed() {
			t.Fatalf("%v", x)
		}
	}
	if told < 10000 {
		t.Errorf("only %d terms with parts", told)
	}
}

// P1: terms that aren't right; nothing is asked but that all calls end.
func TestWrong(t *testing.T) {
	a := set("a")
	var wrong []api.Term
	for _, n := range []int{math.MinInt, -2, -1, 0, 1, 2, 201, math.MaxInt} {
		wrong = append(wrong, op(n), api.Term{Op: n, Min: n, Max: n, Set: api.Class{1}, Kids: []api.Term{a, {}}})
		for _, m := range []int{math.MinInt, -2, -1, 0, 1, 201, math.MaxInt} {
			wrong = append(wrong, rep(a, n, m), rep(rep(a, 0, m), n, m), rep(op(api.OpEmpty), n, m), rep(alt(op(api.OpBegin), a), n, m))
		}
	}
	for kind := range api.OpNone + 2 {
		wrong = append(wrong, op(kind), api.Term{Op: kind, Set: api.Class{0, 1}}, api.Term{Op: kind, Kids: []api.Term{a}}, api.Term{Op: kind, Min: 3, Max: -2, Kids: []api.Term{{}, a, op(api.OpRep), op(kind), op(kind)}})
	}
	for _, x := range wrong {
		for _, y := range []api.Term{x, cat(x, a), cat(x, x), alt(a, x), rep(x, 1, 1), rep(x, 0, -1), rep(x, 200, 200), cat(alt(x, rep(x, 2, 3)), a)} {
			for _, w := range []string{"", "a", "aaab"} {
				ends.All(y, []byte(w))
				for i := -1; i <= len(w)+1; i++ {
					ends.From(y, []byte(w), i)
				}
			}
		}
	}
}

// P10.2: what is handed in isn't changed and isn't kept; answers are new memory, their spare room too.
func TestMemory(t *testing.T) {
	r := rand.New(rand.NewSource(5))
	for range 3000 {
		x := sample.Roomy(sample.Grow(r.Intn, 5))
		before := sample.Roomy(x)
		room := []byte("abABa\xff1spare")
		w := room[:r.Intn(8)]
		calls := []func() []int{func() []int { return ends.All(x, w) }}
		for i := range len(w) + 1 {
			calls = append(calls, func() []int { return ends.From(x, w, i) })
		}
		for _, call := range calls {
			one, two := call(), call()
			want := slices.Clone(one)
			one = one[:cap(one)]
			for i := range one {
				one[i] = -7
			}
			if three := call(); !slices.Equal(two, want) || !slices.Equal(three, want) {
				t.Fatalf("%v: %v, %v, %v", before, want, two, three)
			}
		}
		if !sample.Identical(x, before) || string(room) != "abABa\xff1spare" {
			t.Fatalf("%v, before %v; %q", x, before, room)
		}
	}
}
