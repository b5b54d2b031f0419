package nfa_test

import (
	"fmt"
	"math/rand"
	"slices"
	"strings"
	"testing"

	"riddle/api"
	"riddle/ends"
	"riddle/nfa"
	"riddle/posn"
	"riddle/sample"
	"riddle/width"
)

// machine gives the machine of a graph that has one.
func machine(t *testing.T, g api.Graph) *nfa.Machine {
	t.Helper()
	m, code := nfa.New(g)
	if code != api.OK || m == nil {
		t.Fatalf("%.300s: %v", sample.Told(g), code)
	}
	return m
}

// state gives the vector of some bits, told without layer 1.
func state(list ...int) []uint64 {
	var out []uint64
	for _, i := range list {
		for len(out) <= i/64 {
			out = append(out, 0)
		}
		out[i/64] |= 1 << (i % 64)
	}
	return out
}

// bit tells whether a state has a bit.
func bit(v []uint64, i int) bool {
	return i/64 < len(v) && v[i/64]>>(i%64)&1 == 1
}

// stepped gives the state behind a byte by the document's words.
func stepped(g api.Graph, v []uint64, b byte) []uint64 {
	var list []int
	for q, set := range g.Sets {
		comes := bit(v, 0) && slices.Contains(g.First, q)
		for p, follow := range g.Follow {
			comes = comes || bit(v, p+1) && slices.Contains(follow, q)
		}
		if comes && set[b/64]>>(b%64)&1 == 1 {
			list = append(list, q+1)
		}
	}
	return state(list...)
}

// done tells by the document's words whether a state is Done.
func done(g api.Graph, v []uint64) bool {
	is := g.Empty && bit(v, 0)
	for _, p := range g.Last {
		is = is || bit(v, p+1)
	}
	return is
}

// scanned gives the ends in a text by layer 11's From.
func scanned(g api.Graph, w []byte, always bool) []int {
	if !always {
		return posn.From(g, w, 0)
	}
	var out []int
	for i := range len(w) + 1 {
		out = append(out, posn.From(g, w, i)...)
	}
	slices.Sort(out)
	return slices.Compact(out)
}

func TestExamples(t *testing.T) {
	m := machine(t, sample.GraphOf("ab"))
	two := m.Step(state(0), 'a')
	four := m.Step(two, 'b')
	if m.Width() != 3 || !slices.Equal(two, []uint64{2}) || !slices.Equal(four, []uint64{4}) {
		t.Errorf("%d, %v, %v", m.Width(), two, four)
	}
	if got := fmt.Sprint(m.Done(state(0)), m.Done(two), m.Done(four), m.Scan([]byte("aab"), true), m.Scan([]byte("aab"), false)); got != "false false true [3] []" {
		t.Error(got)
	}
}

// P13.1: Width is one more than the positions, from none to as many as there may be.
func TestWidth(t *testing.T) {
	r := rand.New(rand.NewSource(1))
	for n := range api.MaxPositions + 1 {
		if got := machine(t, sample.Graph(r.Intn, n)).Width(); got != n+1 {
			t.Errorf("%d positions: %d", n, got)
		}
	}
}

// P13.1: graphs that aren't right have no machine.
func TestWrong(t *testing.T) {
	for _, g := range sample.WrongGraphs() {
		if m, code := nfa.New(g); m != nil || code != api.ErrArg {
			t.Errorf("%.300s: %v, %v", fmt.Sprint(g), m, code)
		}
	}
}

// P13.2: steps told by hand.
func TestSteps(t *testing.T) {
	for i, c := range []struct {
		text string
		from []uint64
		b    byte
		want []uint64
		done bool // of what is come to
	}{
		{"ab", nil, 'a', nil, false},
		{"ab", state(0), 'b', nil, false},
		{"ab", state(1), 'a', nil, false},
		{"ab", state(1), 'b', state(2), true},
		{"ab", state(2), 'a', nil, false},
		{"ab", state(0, 1, 2), 'a', state(1), false},
		{"ab", state(0, 1, 2), 'b', state(2), true},
		{"(a|b)*c", state(0), 'b', state(2), false},
		{"(a|b)*c", state(2), 'a', state(1), false},
		{"(a|b)*c", state(2), 'c', state(3), true},
		{"(a|b)*c", state(3), 'c', nil, false},
		{"a*", state(0), 'a', state(1), true},
		{"a*", state(1), 'a', state(1), true},
		{"a*", state(0), 'b', nil, false}, // what is empty is done when armed, but a step doesn't arm
		{"a|ab|abc", state(0), 'a', state(1, 2, 4), true},
		{"a|ab|abc", state(1, 2, 4), 'b', state(3, 5), true},
		{"a|ab|abc", state(4), 'b', state(5), false},
		{"[b-a]a?", state(0, 1), 'a', state(2), true},
		{".", state(0), '\n', nil, false},
		{".", state(0), 0, state(1), true},
		{".", state(0), 255, state(1), true},
		{"", state(0), 'a', nil, false},
		{"a{200}", state(63), 'a', state(64), false},
		{"a{200}", state(64), 'a', state(65), false},
		{"a{200}", state(0, 64, 199, 200), 'a', state(1, 65, 200), true},
		{"(a{200}){2}", state(399), 'a', state(400), true},
		{"(a{200}){2}", state(400), 'a', nil, false},
	} {
		m := machine(t, sample.GraphOf(c.text))
		if got := m.Step(c.from, c.b); !slices.Equal(got, c.want) || m.Done(got) != c.done {
			t.Errorf("%d: %q, %v by %q: %v, %v", i, c.text, c.from, c.b, got, m.Done(got))
		}
	}
}

// P13.2: each state that has one bit, and which of them are Done.
func TestDone(t *testing.T) {
	for text, want := range map[string][]int{
		"": {0}, "a": {1}, "a?": {0, 1}, "ab": {2}, "ab?": {1, 2}, "a|b|": {0, 1, 2}, "[b-a]": {1}, "a{2,4}": {2, 3, 4}, "(a*b)*": {0, 2}, "a{60,70}": {60, 61, 62, 63, 64, 65, 66, 67, 68, 69, 70}, "(a{200}){1,2}": {200, 400},
	} {
		m := machine(t, sample.GraphOf(text))
		var got []int
		for i := range 1000 {
			if m.Done(state(i)) {
				got = append(got, i)
			}
		}
		if !slices.Equal(got, want) || m.Done(nil) {
			t.Errorf("%q: %v, not %v", text, got, want)
		}
	}
}

// vector gives a state of so many words, with bits anywhere; few, or many of them.
func vector(r *rand.Rand, words int) []uint64 {
	out := make([]uint64, words)
	for i := range out {
		switch r.Intn(4) {
		case 0:
			out[i] = r.Uint64()
		case 1:
			out[i] = 1 << r.Intn(64)
		case 2:
			out[i] = r.Uint64() & r.Uint64() & r.Uint64()
		}
	}
	return out
}

// P13.2: grown graphs against the model: from states that have bits beyond Width, and words 0 at their end, too.
func TestGrown(t *testing.T) {
	r := rand.New(rand.NewSource(13))
	some, many := 0, 0
	for i := range 3000 {
		positions := i % 9
		if i%10 == 0 {
			positions = []int{62, 63, 64, 65, 126, 127, 128, 129}[i/10%8]
		}
		g := sample.Graph(r.Intn, positions)
		m := machine(t, g)
		for range 10 {
			v := vector(r, r.Intn(5))
			for _, b := range []byte("ab\x00\xffc") {
				got := m.Step(v, b)
				if want := stepped(g, v, b); !slices.Equal(got, want) || m.Done(got) != done(g, want) {
					t.Fatalf("%s, %v by %q: %v, %v, not %v", sample.Told(g), v, b, got, m.Done(got), want)
				}
				some, many = some+min(len(got), 1), many+len(got)
			}
			if m.Done(v) != done(g, v) {
				t.Fatalf("%s, %v: %v", sample.Told(g), v, m.Done(v))
			}
		}
	}
	if some < 10000 || many < some+1000 {
		t.Errorf("%d states, %d words", some, many)
	}
}

// P13.2: every byte has a mask of its own.
func TestBytes(t *testing.T) {
	g := api.Graph{Sets: make([]api.Class, 256), Follow: make([][]int, 256)}
	for b := range 256 {
		g.Sets[b] = sample.Class(string([]byte{byte(b)}))
		g.First = append(g.First, b)
	}
	m := machine(t, g)
	for b := range 256 {
		if got := m.Step([]uint64{1}, byte(b)); !slices.Equal(got, state(b+1)) {
			t.Errorf("%d: %v", b, got)
		}
	}
}

// P13.2: bits from Width on count for nothing, however many words there are.
func TestBeyond(t *testing.T) {
	for _, text := range []string{"", "a*", "ab", "a{62}", "a{63}", "a{64}", "(a{200}){2}"} {
		m := machine(t, sample.GraphOf(text))
		n := m.Width()
		for _, v := range [][]uint64{state(n), state(n + 1), state(64 * (n/64 + 1)), state(1 << 20), state(n, 447, 448, 511, 512)} {
			if got := m.Step(v, 'a'); len(got) != 0 || m.Done(v) {
				t.Errorf("%q, %d words: %v, %v", text, len(v), got, m.Done(v))
			}
		}
		long := append(state(0), make([]uint64, 1<<16)...)
		if got := m.Step(long, 'a'); !slices.Equal(got, m.Step(state(0), 'a')) || m.Done(long) != m.Done(state(0)) {
			t.Errorf("%q: %v, %v", text, got, m.Done(long))
		}
	}
}

// P13.3: scans told by hand.
func TestScans(t *testing.T) {
	for _, c := range []struct{ text, w, always, once string }{
		{"", "", "[0]", "[0]"},
		{"", "ab", "[0 1 2]", "[0]"},
		{"a", "", "[]", "[]"},
		{"a", "ba", "[2]", "[]"},
		{"a?", "", "[0]", "[0]"},
		{"a?", "aab", "[0 1 2 3]", "[0 1]"},
		{"a*", "aaba", "[0 1 2 3 4]", "[0 1 2]"},
		{"a+", "aaba", "[1 2 4]", "[1 2]"},
		{"[b-a]", "ab", "[]", "[]"},
		{"[b-a]?", "ab", "[0 1 2]", "[0]"},
		{"aa", "aaaa", "[2 3 4]", "[2]"},
		{"ab|b", "abb", "[2 3]", "[2]"},
		{"a.*b", "xaxbxb", "[4 6]", "[]"},
		{"(ab)*", "ababb", "[0 1 2 3 4 5]", "[0 2 4]"},
		{"a{2,3}", "aaaa", "[2 3 4]", "[2 3]"},
	} {
		m := machine(t, sample.GraphOf(c.text))
		if always, once := fmt.Sprint(m.Scan([]byte(c.w), true)), fmt.Sprint(m.Scan([]byte(c.w), false)); always != c.always || once != c.once {
			t.Errorf("%q in %q: %s, %s", c.text, c.w, always, once)
		}
	}
}

// P13.3: grown graphs, of no term too, against layer 11.
func TestLayer11(t *testing.T) {
	r := rand.New(rand.NewSource(14))
	some := 0
	for i := range 10000 {
		g, w := sample.Graph(r.Intn, i%9), sample.Text(r.Intn, "abab\x00\xffc", 12)
		m := machine(t, g)
		for _, always := range []bool{true, false} {
			got := m.Scan(w, always)
			if want := scanned(g, w, always); !slices.Equal(got, want) {
				t.Fatalf("%s in %q, %v: %v, not %v", sample.Told(g), w, always, got, want)
			}
			some += len(got)
		}
	}
	if some < 10000 {
		t.Errorf("only %d ends", some)
	}
}

// P13.3: grown terms against layer 10: all ends of what they match, and those from the beginning.
func TestLayer10(t *testing.T) {
	r := rand.New(rand.NewSource(15))
	some := 0
	for i := range 3000 {
		x := sample.Grow(r.Intn, 2+i%4)
		g, code := posn.Build(x)
		if code != api.OK || width.Anchored(x) {
			continue
		}
		m, w := machine(t, g), sample.Text(r.Intn, "abA\n\xff", 20)
		if always, once := m.Scan(w, true), m.Scan(w, false); !slices.Equal(always, ends.All(x, w)) || !slices.Equal(once, ends.From(x, w, 0)) {
			t.Fatalf("%v in %q: %v, %v", x, w, always, once)
		} else {
			some += len(always)
		}
	}
	if some < 5000 {
		t.Errorf("only %d ends", some)
	}
}

// P13.2 and P13.3: a scan is the same as steps by hand, armed ahead of each byte or not.
func TestStepsAndScan(t *testing.T) {
	r := rand.New(rand.NewSource(16))
	for i := range 2000 {
		m, w := machine(t, sample.Graph(r.Intn, i%80)), sample.Text(r.Intn, "ab\x00c", 20)
		for _, always := range []bool{true, false} {
			var want []int
			v := state(0)
			for j := range len(w) + 1 {
				if m.Done(v) {
					want = append(want, j)
				}
				if j == len(w) {
					break
				}
				if v = m.Step(v, w[j]); always {
					v = append(v, make([]uint64, 1)...)
					v[0] |= 1
				}
			}
			if got := m.Scan(w, always); !slices.Equal(got, want) {
				t.Fatalf("%q, %v: %v, not %v", w, always, got, want)
			}
		}
	}
}

// P13.3: what is handed in isn't changed and isn't kept, and a machine is by itself.
func TestKept(t *testing.T) {
	r := rand.New(rand.NewSource(17))
	for i := range 2000 {
		g := sample.RoomyGraph(sample.Graph(r.Intn, 1+i%9))
		before := sample.RoomyGraph(g)
		m := machine(t, g)
		if !sample.IdenticalGraphs(g, before) {
			t.Fatalf("%v, before %v", g, before)
		}
		for p := range g.Sets {
			g.Sets[p] = api.Class{r.Uint64(), r.Uint64(), r.Uint64(), r.Uint64()}
			clear(g.Follow[p][:cap(g.Follow[p])])
		}
		clear(g.First[:cap(g.First)])
		clear(g.Last[:cap(g.Last)])
		other := machine(t, sample.Graph(r.Intn, 1+i%7))
		v, w := vector(r, 1), sample.Text(r.Intn, "ab\x00c", 9)
		other.Step(v, 'a')
		other.Scan(w, true)
		if got := m.Step(v, 'a'); !slices.Equal(got, stepped(before, v, 'a')) || m.Width() != len(before.Sets)+1 || m.Done(v) != done(before, v) || !slices.Equal(m.Scan(w, true), scanned(before, w, true)) {
			t.Fatalf("%s, %v: %v", sample.Told(before), v, got)
		}
	}
}

// fill writes over a list and its spare room.
func fill[T any](list []T, with T) {
	list = list[:cap(list)]
	for i := range list {
		list[i] = with
	}
}

// P13.3: states and texts aren't changed, their spare room neither; answers are new memory, and nothing hangs on what becomes of them.
func TestMemory(t *testing.T) {
	r := rand.New(rand.NewSource(18))
	for i := range 3000 {
		m := machine(t, sample.Graph(r.Intn, i%140))
		v, w := vector(r, 4)[:r.Intn(4)], sample.Text(r.Intn, "ab", 30)
		spare, text := slices.Clone(v[:4]), slices.Clone(w[:cap(w)])
		m.Done(v)
		step, again, ends, more := m.Step(v, 'a'), m.Step(v, 'a'), m.Scan(w, true), m.Scan(w, true)
		if !slices.Equal(v[:4], spare) || !slices.Equal(w[:cap(w)], text) {
			t.Fatalf("%v, before %v", v[:4], spare)
		}
		kept, told := slices.Clone(step), slices.Clone(ends)
		fill(again, ^uint64(0))
		fill(more, -1)
		fill(v[:4], 5)
		fill(w, 'b')
		if !slices.Equal(step, kept) || !slices.Equal(ends, told) {
			t.Fatalf("%v, before %v; %v, before %v", step, kept, ends, told)
		}
		fill(step, ^uint64(0))
		fill(ends, -1)
		if got := m.Step(spare[:len(v)], 'a'); !slices.Equal(got, kept) || !slices.Equal(m.Scan(text[:len(w)], true), told) {
			t.Fatalf("%v, before %v", got, kept)
		}
		if slices.ContainsFunc(v[:4], func(word uint64) bool { return word != 5 }) {
			t.Fatalf("%v: shared memory", v[:4])
		}
	}
}

// P1: the greatest graphs in long texts end soon.
func TestGreat(t *testing.T) {
	all := make([]int, api.MaxPositions)
	for p := range all {
		all[p] = p
	}
	dense := api.Graph{First: all, Last: all, Empty: true}
	for range all {
		dense.Sets, dense.Follow = append(dense.Sets, sample.Class("a")), append(dense.Follow, all)
	}
	const long = 1 << 18
	w := []byte(strings.Repeat("a", long))
	if got := machine(t, dense).Scan(w, true); len(got) != long+1 {
		t.Errorf("%d", len(got))
	}
	if got := machine(t, sample.GraphOf("(a{200}){2}")).Scan(w, true); len(got) != long-399 || got[0] != 400 {
		t.Errorf("%d", len(got))
	}
	if got := machine(t, sample.GraphOf("(a{200}){2}")).Scan(w, false); !slices.Equal(got, []int{400}) {
		t.Errorf("%v", got)
	}
}
