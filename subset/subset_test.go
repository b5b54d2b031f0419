package subset_test

import (
	"fmt"
	"math/rand"
	"slices"
	"testing"

	"riddle/api"
	"riddle/ends"
	"riddle/nfa"
	"riddle/posn"
	"riddle/sample"
	"riddle/subset"
	"riddle/width"
)

// built gives the machine by states of a graph that has one.
func built(t *testing.T, g api.Graph, always bool) api.Table {
	t.Helper()
	x, code := subset.Build(g, always)
	if code != api.OK {
		t.Fatalf("%.300s: %v", sample.Told(g), code)
	}
	return x
}

// dots gives a graph of so many positions whose sets are those bytes for which has holds; each may be first.
func dots(positions int, has func(p, b int) bool) api.Graph {
	g := api.Graph{Sets: make([]api.Class, positions), Follow: make([][]int, positions)}
	for p := range positions {
		g.First = append(g.First, p)
		for b := range 256 {
			if has(p, b) {
				g.Sets[p][b/64] |= 1 << (b % 64)
			}
		}
	}
	return g
}

func TestExamples(t *testing.T) {
	if got := sample.ToldTable(built(t, sample.GraphOf("ab"), true)); got != "3: 0 a1 b2 c0: 0,1,0 0,1,2 0,1,0!" {
		t.Error(got)
	}
}

// P14.1: classes told by hand: each byte whose class isn't that of the one ahead of it.
func TestBytesByHand(t *testing.T) {
	for pattern, want := range map[string]string{
		"":                "1: 0",
		"[b-a]":           "1: 0",
		"[^b-a]":          "1: 0",
		"a":               "2: 0 a1 b0",
		"aaa|a*":          "2: 0 a1 b0",
		"[^a]":            "2: 0 a1 b0",
		"[^a]|a":          "2: 0 a1 b0",
		"\\x00":           "2: 0 \x011",
		"\\xff":           "2: 0 \xff1",
		"[^\\x00]":        "2: 0 \x011",
		"ba":              "3: 0 a1 b2 c0",
		".":               "2: 0 \n1 \v0",
		"[a-m][h-z]":      "4: 0 a1 h2 n3 {0",
		"[a-z]e":          "3: 0 a1 e2 f1 {0",
		"[a-z][^a-z]":     "2: 0 a1 {0",
		"[\\x00-\\x7f]|b": "3: 0 b1 c0 \x802",
		"[ac][bd]":        "3: 0 a1 b2 c1 d2 e0",
		"[ac][bc]":        "4: 0 a1 b2 c3 d0",
	} {
		classes, n, code := subset.Bytes(sample.GraphOf(pattern))
		if got := sample.ToldTable(api.Table{Map: classes, Classes: n}); got != want+":" || code != api.OK {
			t.Errorf("%q: %s, %v, not %s", pattern, got, code, want)
		}
	}
}

// holdBytes holds the classes of a graph against the document's words.
func holdBytes(t *testing.T, g api.Graph, classes [256]byte, n int) {
	t.Helper()
	met := 0 // the classes of the bytes ahead
	for b := range 256 {
		like := 0
		for like < b && slices.ContainsFunc(g.Sets, func(set api.Class) bool { return set[b/64]>>(b%64)&1 != set[like/64]>>(like%64)&1 }) {
			like++
		}
		want := met
		if like < b {
			want = int(classes[like])
		} else {
			met++
		}
		if int(classes[b]) != want {
			t.Fatalf("%.300s: %d has class %d, not %d", sample.Told(g), b, classes[b], want)
		}
	}
	if n != met {
		t.Fatalf("%.300s: %d classes, not %d", sample.Told(g), n, met)
	}
}

// P14.1: any sets, against the document's words; as many classes as there may be, too.
func TestBytes(t *testing.T) {
	r := rand.New(rand.NewSource(1))
	graphs := []api.Graph{
		{},
		dots(1, func(p, b int) bool { return false }),
		dots(1, func(p, b int) bool { return true }),
		dots(8, func(p, b int) bool { return b>>p&1 == 1 }),
		dots(8, func(p, b int) bool { return b>>(7-p)&1 == 0 }),
		dots(7, func(p, b int) bool { return b>>p&1 == 1 }),
		dots(256, func(p, b int) bool { return p == b }),
		dots(255, func(p, b int) bool { return p == b }),
		dots(254, func(p, b int) bool { return p == b }),
		dots(255, func(p, b int) bool { return p < b }),
		dots(256, func(p, b int) bool { return p == 255-b }),
		dots(400, func(p, b int) bool { return p == 399 && b == 255 }),
		dots(400, func(p, b int) bool { return p >= 144 && p-144 != b }),
	}
	for i := range 500 {
		few := 1 + r.Intn(20)
		graphs = append(graphs, sample.Graph(r.Intn, i%9), dots(i%12, func(p, b int) bool { return r.Intn(few) == 0 }))
	}
	most := 0
	for _, g := range graphs {
		classes, n, code := subset.Bytes(g)
		if code != api.OK {
			t.Fatalf("%.300s: %v", sample.Told(g), code)
		}
		holdBytes(t, g, classes, n)
		most = max(most, n)
	}
	if most != 256 {
		t.Errorf("at most %d classes", most)
	}
}

// P14.1, P14.2: graphs that aren't right have no classes, and no machine.
func TestWrong(t *testing.T) {
	for _, g := range sample.WrongGraphs() {
		if classes, n, code := subset.Bytes(g); code != api.ErrArg || n != 0 || classes != [256]byte{} {
			t.Errorf("%.300s: %d, %v", fmt.Sprint(g), n, code)
		}
		for _, always := range []bool{true, false} {
			if x, code := subset.Build(g, always); code != api.ErrArg || !sample.SameTable(x, api.Table{}) {
				t.Errorf("%.300s: %v, %v", fmt.Sprint(g), x, code)
			}
		}
	}
}

// P14.2: machines told by hand, always armed and not.
func TestByHand(t *testing.T) {
	for _, c := range []struct{ pattern, always, once string }{
		{"", "1: 0: 0!", "1: 0: 1! 1"},
		{"[b-a]", "1: 0: 0", "1: 0: 1 1"},
		{"[b-a]?", "1: 0: 0!", "1: 0: 1! 1"},
		{"[^b-a]", "1: 0: 1 1!", "1: 0: 1 2! 2"},
		{"[^b-a]*", "1: 0: 1! 1!", "1: 0: 1! 1!"},
		{"a", "2: 0 a1 b0: 0,1 0,1!", "2: 0 a1 b0: 1,2 1,1 1,1!"},
		{"a*", "2: 0 a1 b0: 0,1! 0,1!", "2: 0 a1 b0: 1,2! 1,1 1,2!"},
		{"a+", "2: 0 a1 b0: 0,1 0,1!", "2: 0 a1 b0: 1,2 1,1 1,2!"},
		{"ab", "3: 0 a1 b2 c0: 0,1,0 0,1,2 0,1,0!", "3: 0 a1 b2 c0: 1,2,1 1,1,1 1,1,3 1,1,1!"},
		{"ba", "3: 0 a1 b2 c0: 0,0,1 0,2,1 0,0,1!", "3: 0 a1 b2 c0: 1,1,2 1,1,1 1,3,1 1,1,1!"},
		{"aa", "2: 0 a1 b0: 0,1 0,2 0,2!", "2: 0 a1 b0: 1,2 1,1 1,3 1,1!"},
		{"\\x00\\xff", "3: 0 \x011 \xff2: 1,0,0 1,0,2 1,0,0!", "3: 0 \x011 \xff2: 1,2,2 2,2,3 2,2,2 2,2,2!"},
		{"a|b", "3: 0 a1 b2 c0: 0,1,2 0,1,2! 0,1,2!", "3: 0 a1 b2 c0: 1,2,3 1,1,1 1,1,1! 1,1,1!"},
		{"[^a]a?", "2: 0 a1 b0: 1,0 1,2! 1,0!", "2: 0 a1 b0: 1,2 2,3! 2,2 2,2!"},
	} {
		g := sample.GraphOf(c.pattern)
		if always, once := sample.ToldTable(built(t, g, true)), sample.ToldTable(built(t, g, false)); always != c.always || once != c.once {
			t.Errorf("%q:\n%s\n%s", c.pattern, always, once)
		}
	}
}

// machine gives layer 13's machine of a graph, and the state with bit 0 alone.
func machine(t *testing.T, g api.Graph) (*nfa.Machine, []uint64) {
	t.Helper()
	m, code := nfa.New(g)
	if code != api.OK {
		t.Fatalf("%s: %v", sample.Told(g), code)
	}
	return m, []uint64{1}
}

// key is a state as what can be met in a map.
type key [api.MaxPositions/64 + 1]uint64

// keyOf gives the key of a state.
func keyOf(state []uint64) key {
	var out key
	copy(out[:], state)
	return out
}

// stepped gives the state behind a byte, armed or not.
func stepped(m *nfa.Machine, state []uint64, b byte, always bool) []uint64 {
	state = m.Step(state, b)
	if always {
		state = append(slices.Clone(state), make([]uint64, max(0, 1-len(state)))...)
		state[0] |= 1
	}
	return state
}

// count tells how many states can be come to, but stops soon behind MaxStates.
func count(t *testing.T, g api.Graph, always bool) int {
	t.Helper()
	m, first := machine(t, g)
	met := map[key]int{keyOf(first): 0}
	for wait := [][]uint64{first}; len(wait) > 0 && len(met) <= api.MaxStates; wait = wait[1:] {
		for b := range 256 {
			next := stepped(m, wait[0], byte(b), always)
			if _, ok := met[keyOf(next)]; !ok {
				met[keyOf(next)] = len(met)
				wait = append(wait, next)
			}
		}
	}
	return len(met)
}

// hold holds a machine by states, byte by byte, against layer 13's by the document's words.
func hold(t *testing.T, g api.Graph, always bool, x api.Table) {
	t.Helper()
	classes, n, _ := subset.Bytes(g)
	if x.Map != classes || x.Classes != n || len(x.Next) != n*len(x.Done) || len(x.Done) > api.MaxStates {
		t.Fatalf("%s: %s", sample.Told(g), sample.ToldTable(x))
	}
	m, first := machine(t, g)
	states, met := [][]uint64{first}, map[key]int{keyOf(first): 0}
	for s := 0; s < len(states); s++ {
		for b := range 256 {
			next := stepped(m, states[s], byte(b), always)
			// The least byte of each class comes ahead of the others, and the classes' least bytes in their order.
			want, ok := met[keyOf(next)]
			if !ok {
				want = len(states)
				met[keyOf(next)] = want
				states = append(states, next)
			}
			if got := int(x.Next[s*n+int(x.Map[b])]); got != want {
				t.Fatalf("%s, %v: from %d by %d to %d, not %d", sample.Told(g), always, s, b, got, want)
			}
		}
		if x.Done[s] != m.Done(states[s]) {
			t.Fatalf("%s, %v: %d is done: %v", sample.Told(g), always, s, x.Done[s])
		}
	}
	if len(states) != len(x.Done) {
		t.Fatalf("%s, %v: %d states, not %d", sample.Told(g), always, len(x.Done), len(states))
	}
}

// sparse gives a graph of so many positions that each go on in few ways: so it has many states.
func sparse(r *rand.Rand, positions int) api.Graph {
	g := api.Graph{First: []int{r.Intn(positions)}, Last: []int{r.Intn(positions)}}
	for p := range positions {
		follow := []int{r.Intn(positions), r.Intn(positions)}
		slices.Sort(follow)
		g.Sets, g.Follow = append(g.Sets, sample.Class([]string{"a", "b", "ab", "bc"}[p%4])), append(g.Follow, slices.Compact(follow))
	}
	return g
}

// P14.2: grown graphs, of no term too, against layer 13; some have too many states.
func TestGrown(t *testing.T) {
	r := rand.New(rand.NewSource(2))
	many, most, refused := 0, 0, 0
	for i := range 800 {
		g := sample.Graph(r.Intn, i%9)
		if i%5 == 0 {
			g = sparse(r, 1+i/5%80)
		}
		for _, always := range []bool{true, false} {
			x, code := subset.Build(g, always)
			if code == api.ErrStates {
				if n := count(t, g, always); n <= api.MaxStates || !sample.SameTable(x, api.Table{}) {
					t.Fatalf("%s, %v: %d states, %v", sample.Told(g), always, n, x)
				}
				refused++
				continue
			}
			if code != api.OK {
				t.Fatalf("%s, %v: %v", sample.Told(g), always, code)
			}
			hold(t, g, always, x)
			many, most = many+len(x.Done), max(most, len(x.Done))
		}
	}
	if many < 10000 || most < 100 || refused < 20 {
		t.Errorf("%d states, at most %d, %d graphs have too many", many, most, refused)
	}
}

// moved gives a graph whose positions stand behind so many others, which come to nothing.
func moved(g api.Graph, up int) api.Graph {
	list := func(old []int) []int {
		var out []int
		for _, p := range old {
			out = append(out, p+up)
		}
		return out
	}
	out := api.Graph{Sets: append(make([]api.Class, up), g.Sets...), First: list(g.First), Last: list(g.Last), Follow: make([][]int, up), Empty: g.Empty}
	for _, follow := range g.Follow {
		out.Follow = append(out.Follow, list(follow))
	}
	return out
}

// P14.2: the same machine, whatever numbers the positions have, up to the greatest ones.
func TestMoved(t *testing.T) {
	r := rand.New(rand.NewSource(5))
	for i := range 1000 {
		g, always := sample.Graph(r.Intn, i%9), i%2 == 0
		x := built(t, g, always)
		for _, up := range []int{1, 55 + i%9, 64 * (1 + i%6), 400 - i%9} {
			if y := built(t, moved(g, min(up, 400-i%9)), always); !sample.SameTable(x, y) {
				t.Fatalf("%s, %v, by %d: %s, not %s", sample.Told(g), always, up, sample.ToldTable(y), sample.ToldTable(x))
			}
		}
	}
}

// row gives a pattern of so many a.
func row(n int) string {
	return fmt.Sprintf("a{%d}a{%d}", n/2, n-n/2)
}

// P14.2: as many states as there may be, and one more. (What isn't always armed has the beginning, one behind each a, and one behind all else.)
func TestMost(t *testing.T) {
	for _, c := range []struct {
		pattern string
		always  bool
		states  int // 0: too many
	}{
		{row(297), false, 299}, {row(298), false, 300}, {row(299), false, 0}, {row(400), false, 0},
		{row(298), true, 299}, {row(299), true, 300}, {row(300), true, 0}, {row(400), true, 0},
		{"(" + row(297) + ")*", false, 299}, {"(" + row(299) + ")*", false, 0},
		{"a.{7}", true, 256}, {"[^b-a]{0,200}", true, 201}, {"a[^b-a]{8}", true, 0}, {"a.{9}", true, 0}, {"a.{9}", false, 12},
		{row(150) + "|b" + row(147), false, 300}, {row(150) + "|b" + row(148), false, 0},
	} {
		g := sample.GraphOf(c.pattern)
		x, code := subset.Build(g, c.always)
		if c.states == 0 {
			if code != api.ErrStates || !sample.SameTable(x, api.Table{}) {
				t.Errorf("%q, %v: %d states, %v", c.pattern, c.always, len(x.Done), code)
			}
			continue
		}
		if code != api.OK || len(x.Done) != c.states {
			t.Errorf("%q, %v: %d states, %v", c.pattern, c.always, len(x.Done), code)
			continue
		}
		hold(t, g, c.always, x)
	}
}

// P14.2: each byte leads on by itself, where all are of classes of their own.
func TestAllClasses(t *testing.T) {
	g := dots(256, func(p, b int) bool { return p == b })
	for _, p := range []int{0, 7, 255} {
		g.Follow[p] = []int{p}
	}
	g.Last = []int{0, 100, 255}
	for _, always := range []bool{true, false} {
		x := built(t, g, always)
		if x.Classes != 256 || len(x.Next) != 256*len(x.Done) {
			t.Errorf("%d, %d", x.Classes, len(x.Next))
		}
		hold(t, g, always, x)
	}
}

// P14.2: machines of grown terms find what layer 10 tells.
func TestLayer10(t *testing.T) {
	r := rand.New(rand.NewSource(3))
	some := 0
	for i := range 3000 {
		x := sample.Grow(r.Intn, 2+i%4)
		g, code := posn.Build(x)
		if code != api.OK || width.Anchored(x) {
			continue
		}
		always, a := subset.Build(g, true)
		once, b := subset.Build(g, false)
		if a != api.OK || b != api.OK {
			continue
		}
		for range 4 {
			w := sample.Text(r.Intn, "abAB\n1\xff", 20)
			if all, from := sample.Run(always, w), sample.Run(once, w); !slices.Equal(all, ends.All(x, w)) || !slices.Equal(from, ends.From(x, w, 0)) {
				t.Fatalf("%v in %q: %v, %v", x, w, all, from)
			} else {
				some += len(all)
			}
		}
	}
	if some < 20000 {
		t.Errorf("only %d ends", some)
	}
}

// P14.3, and P2: what is handed in isn't changed, answers are new memory, and the same at a second time.
func TestMemory(t *testing.T) {
	r := rand.New(rand.NewSource(4))
	for i := range 2000 {
		g, always := sample.RoomyGraph(sample.Graph(r.Intn, i%9)), i%2 == 0
		before := sample.RoomyGraph(g)
		one, classes := built(t, g, always), fmt.Sprint(subset.Bytes(g))
		other := built(t, sample.Graph(r.Intn, i%5), always)
		two := built(t, g, always)
		if !sample.IdenticalGraphs(g, before) || !sample.SameTable(one, two) || fmt.Sprint(subset.Bytes(g)) != classes {
			t.Fatalf("%v, before %v; %v, before %v", g, before, two, one)
		}
		if !sample.ApartTables(one, other, two) {
			t.Fatalf("%v: shared memory", g)
		}
		// Nothing hangs on what becomes of what was handed in.
		told := sample.ToldTable(one)
		clear(g.Sets)
		clear(g.Follow)
		if sample.ToldTable(one) != told {
			t.Fatalf("%s, before %s", sample.ToldTable(one), told)
		}
	}
}

// P1: the greatest graphs end soon, be there few states or too many, of all classes.
func TestGreat(t *testing.T) {
	all := make([]int, api.MaxPositions)
	for p := range all {
		all[p] = p
	}
	dense := dots(api.MaxPositions, func(p, b int) bool { return p < 392 || b>>(p-392)&1 == 1 })
	growing := dots(api.MaxPositions, func(p, b int) bool { return p < 392 || b>>(p-392)&1 == 1 })
	growing.First, growing.Last = all[:1], all[100:101]
	for p := range all {
		dense.Follow[p], growing.Follow[p] = all, all[:min(p+2, 392)]
	}
	for _, always := range []bool{true, false} {
		if x := built(t, dense, always); x.Classes != 256 || len(x.Done) != 257 {
			t.Errorf("%d classes, %d states", x.Classes, len(x.Done))
		}
		if _, code := subset.Build(growing, always); code != api.ErrStates {
			t.Error(code)
		}
	}
}
