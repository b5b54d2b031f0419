package small_test

import (
	"fmt"
	"math/rand"
	"slices"
	"strings"
	"testing"

	"riddle/api"
	"riddle/posn"
	"riddle/sample"
	"riddle/small"
	"riddle/subset"
	"riddle/width"
)

// minimised gives what Minimise makes of a table that it takes.
func minimised(t *testing.T, x api.Table) api.Table {
	t.Helper()
	out, code := small.Minimise(x)
	if code != api.OK || small.Check(out) != api.OK {
		t.Fatalf("%.300s: %v, %.300s", fmt.Sprint(x), code, fmt.Sprint(out))
	}
	return out
}

// rows tells a table's states, and nothing else of it.
func rows(x api.Table) string {
	told := sample.ToldTable(x)
	return told[strings.LastIndex(told, ": ")+2:]
}

// built gives the machine by states of a graph that has one.
func built(t *testing.T, g api.Graph, always bool) api.Table {
	t.Helper()
	x, code := subset.Build(g, always)
	if code != api.OK {
		t.Fatalf("%s: %v", sample.Told(g), code)
	}
	return x
}

func TestExamples(t *testing.T) {
	x := built(t, sample.GraphOf("a|b"), false)
	if got := sample.ToldTable(minimised(t, x)); len(x.Done) != 4 || got != "3: 0 a1 b2 c0: 1,2,2 1,1,1 1,1,1!" {
		t.Errorf("%d, %s", len(x.Done), got)
	}
}

// P15.1: what is right, at the bounds.
func TestRight(t *testing.T) {
	for _, states := range []int{1, 2, 299, 300} {
		for _, classes := range []int{1, 2, 255, 256} {
			x := api.Table{Classes: classes, Next: make([]uint16, states*classes), Done: make([]bool, states)}
			for i := range x.Next {
				x.Next[i] = uint16(states - 1)
			}
			for b := range x.Map {
				x.Map[b] = byte(min(b, classes-1))
			}
			if code := small.Check(x); code != api.OK {
				t.Errorf("%d states, %d classes: %v", states, classes, code)
			}
		}
	}
}

// P15.1, P15.2: what isn't right is refused.
func TestWrong(t *testing.T) {
	for name, x := range sample.WrongTables() {
		if code := small.Check(x); code != api.ErrArg {
			t.Errorf("%s: Check: %v", name, code)
		}
		if out, code := small.Minimise(x); code != api.ErrArg || !sample.SameTable(out, api.Table{}) {
			t.Errorf("%s: %v, %v", name, out, code)
		}
	}
}

// P15.2: tables told by hand.
func TestByHand(t *testing.T) {
	for _, c := range []struct{ states, want string }{
		{"0", "0"},
		{"0!", "0!"},
		{"1 0", "0"},
		{"1! 0!", "0!"},
		{"1 0!", "1 0!"},
		{"1! 0", "1! 0"},
		{"0 1!", "0"},                                    // never come to
		{"1 2 3 3", "0"},                                 // none is Done
		{"1 2 0!", "1 2 0!"},                             // every third one
		{"1 2 3! 4 5 0!", "1 2 0!"},                      // every third one of six
		{"1 2 3 4 5 0!", "1 2 3 4 5 0!"},                 // every sixth one
		{"3 0! 1 2", "1 2 3 0!"},                         // against their order
		{"2 0 1!", "1 2! 0"},                             // those that are found otherwise than they were numbered
		{"2,1 1,1 2,2!", "1,2 1,1! 2,2"},                 // by the classes' order
		{"1,2 1,1 2,2!", "1,2 1,1 2,2!"},                 // as they were
		{"0,0! 1,0 1,1 2,2!", "0,0!"},                    // three that are never come to
		{"1,1 2,3 2,2! 3,3", "1,1 2,3 2,2! 3,3"},         // they differ by one class alone
		{"1,2 3,4 3,4 3,3! 4,4", "1,1 2,3 2,2! 3,3"},     // two go on alike
		{"1,2 3,4 4,3 3,3! 4,4", "1,2 3,4 4,3 3,3! 4,4"}, // crosswise
		{"1,2 0,0! 0,0!", "1,1 0,0!"},
		{"1,2 0,1! 0,2!", "1,1 0,1!"},                        // each leads to itself
		{"1,2 0,2! 0,1!", "1,1 0,1!"},                        // each leads to the other one
		{"1,2 2,1! 1,0!", "1,2 2,1! 1,0!"},                   // one comes back
		{"1 2 3 4 4!", "1 2 3 4 4!"},                         // the last one alone is Done
		{"1 2! 3! 4! 4!", "1 1!"},                            // all but the first one
		{"1,0 2,0 3,0 3,3!", "1,0 2,0 3,0 3,3!"},             // three in a row
		{"1,2,0 0,0,0! 0,0,1!", "1,2,0 0,0,0! 0,0,1!"},       // by the last class
		{"4,4 2,2! 1,1 0,0 3,3", "0,0"},                      // Done is never come to
		{"5,1 1,1! 2,2 3,2 4,3 5,5!", "1,1 1,1!"},            // some are never come to
		{"1,2 3,3 4,4 5,5 5,5 6,6! 5,5", "1,1 2,2 3,3 2,2!"}, // they go on alike, far behind
	} {
		x := sample.TableOf(c.states)
		got := minimised(t, x)
		if rows(got) != c.want || got.Map != x.Map || got.Classes != x.Classes {
			t.Errorf("%s: %d, %s, not %s", c.states, got.Classes, rows(got), c.want)
		}
	}
}

// P15.2: Map and Classes stay, and a class counts that no byte has.
func TestClassesStay(t *testing.T) {
	x := sample.TableOf("1,2 0,0! 0,1!")
	x.Map = [256]byte{}
	if got := minimised(t, x); got.Map != x.Map || rows(got) != "1,2 0,0! 0,1!" {
		t.Error(sample.ToldTable(got))
	}
	x.Map['a'], x.Map[255] = 1, 1
	if got := sample.ToldTable(minimised(t, x)); got != "2: 0 a1 b0 \xff1: 1,2 0,0! 0,1!" {
		t.Error(got)
	}
	// Two classes that lead alike stay two.
	if got := minimised(t, sample.TableOf("1,1,1 0,0,0")); got.Classes != 3 || rows(got) != "0,0,0" {
		t.Error(sample.ToldTable(got))
	}
}

// model makes a table small by the document's words: states do otherwise, if one of them is Done, or a class leads to states that do otherwise.
func model(x api.Table) api.Table {
	n := len(x.Done)
	to := func(s, class int) int { return int(x.Next[s*x.Classes+class]) }
	otherwise := make([][]bool, n)
	for p := range otherwise {
		otherwise[p] = make([]bool, n)
	}
	for more := true; more; {
		more = false
		for p := range n {
			for q := range n {
				differ := x.Done[p] != x.Done[q]
				for class := range x.Classes {
					differ = differ || otherwise[to(p, class)][to(q, class)]
				}
				more = more || differ && !otherwise[p][q]
				otherwise[p][q] = otherwise[p][q] || differ
			}
		}
	}
	out := api.Table{Map: x.Map, Classes: x.Classes, Done: []bool{x.Done[0]}}
	for found := []int{0}; len(out.Next) < len(found)*x.Classes; {
		s := found[len(out.Next)/x.Classes]
		next := to(s, len(out.Next)%x.Classes)
		k := slices.IndexFunc(found, func(p int) bool { return !otherwise[p][next] })
		if k < 0 {
			k = len(found)
			found, out.Done = append(found, next), append(out.Done, x.Done[next])
		}
		out.Next = append(out.Next, uint16(k))
	}
	return out
}

// same tells whether two tables of the same classes do the same from the state 0 on.
func same(a, b api.Table) bool {
	met := map[[2]uint16]struct{}{{}: {}}
	for wait := [][2]uint16{{}}; len(wait) > 0; wait = wait[1:] {
		p, q := int(wait[0][0]), int(wait[0][1])
		if a.Done[p] != b.Done[q] {
			return false
		}
		for class := range a.Classes {
			pair := [2]uint16{a.Next[p*a.Classes+class], b.Next[q*b.Classes+class]}
			if _, ok := met[pair]; !ok {
				met[pair] = struct{}{}
				wait = append(wait, pair)
			}
		}
	}
	return true
}

// shuffled gives a table that does the same, its states but the state 0 numbered otherwise.
func shuffled(r *rand.Rand, x api.Table) api.Table {
	n := len(x.Done)
	number := append([]int{0}, r.Perm(n-1)...)
	for i := 1; i < n; i++ {
		number[i]++
	}
	out := api.Table{Map: x.Map, Classes: x.Classes, Next: make([]uint16, len(x.Next)), Done: make([]bool, n)}
	for s, is := range x.Done {
		out.Done[number[s]] = is
		for class, to := range x.Next[s*x.Classes : (s+1)*x.Classes] {
			out.Next[number[s]*x.Classes+class] = uint16(number[to])
		}
	}
	return out
}

// P15.2, P15.3: grown tables against the model; done again, or of other numbers, the same.
func TestGrown(t *testing.T) {
	r := rand.New(rand.NewSource(1))
	before, behind, changed := 0, 0, 0
	for i := range 6000 {
		x := sample.Table(r.Intn, 1+i%24, 1+i%5)
		got := minimised(t, x)
		if want := model(x); !sample.SameTable(got, want) {
			t.Fatalf("%s:\n%s, not\n%s", sample.ToldTable(x), sample.ToldTable(got), sample.ToldTable(want))
		}
		if !same(x, got) {
			t.Fatalf("%s:\n%s", sample.ToldTable(x), sample.ToldTable(got))
		}
		for _, other := range []api.Table{got, shuffled(r, x), shuffled(r, got)} {
			if again := minimised(t, other); !sample.SameTable(again, got) {
				t.Fatalf("%s:\n%s, not\n%s", sample.ToldTable(other), sample.ToldTable(again), sample.ToldTable(got))
			}
		}
		before, behind = before+len(x.Done), behind+len(got.Done)
		if rows(got) != rows(x) {
			changed++
		}
	}
	if behind < before/5 || behind > before/2 || changed < 3000 {
		t.Errorf("%d states, then %d; %d tables changed", before, behind, changed)
	}
}

// P15.2: states in which each differs from the next one only far behind, so that blocks are parted one by one.
func TestChains(t *testing.T) {
	r := rand.New(rand.NewSource(2))
	for i := range 300 {
		n, classes := 2+r.Intn(60), 1+i%3
		x := api.Table{Classes: classes}
		for s := range n {
			x.Done = append(x.Done, s == n-1 || i%7 == 0 && s == n/2)
			for class := range classes {
				x.Next = append(x.Next, uint16([]int{min(s+1, n-1), (s + 1) % n, s, 0}[(class+i)%4]))
			}
		}
		// Each state stands there twice, and leads to one of the two that there are of each.
		double := api.Table{Classes: classes, Done: append(slices.Clone(x.Done), x.Done...)}
		for range 2 {
			for _, to := range x.Next {
				double.Next = append(double.Next, to+uint16(n*r.Intn(2)))
			}
		}
		for _, y := range []api.Table{x, double, shuffled(r, double)} {
			if got, want := minimised(t, y), model(x); !sample.SameTable(got, want) {
				t.Fatalf("%s:\n%s, not\n%s", sample.ToldTable(y), sample.ToldTable(got), sample.ToldTable(want))
			}
		}
	}
}

// each goes through all tables of so many states and classes.
func each(states, classes int, yield func(x api.Table)) {
	x := sample.TableOf(strings.Repeat(strings.Repeat(",0", classes)[1:]+" ", states))
	var fill func(i int)
	fill = func(i int) {
		switch {
		case i < len(x.Next):
			for to := range states {
				x.Next[i] = uint16(to)
				fill(i + 1)
			}
		case i < len(x.Next)+states:
			for _, is := range []bool{false, true} {
				x.Done[i-len(x.Next)] = is
				fill(i + 1)
			}
		default:
			yield(x)
		}
	}
	fill(0)
}

// P15.3: all tables of few states: none of fewer states does the same, for all of them are tried.
func TestFewest(t *testing.T) {
	tables, least := 0, map[int]int{}
	for states := 1; states <= 3; states++ {
		each(states, 2, func(x api.Table) {
			got := minimised(t, x)
			if !same(x, got) {
				t.Fatalf("%s: %s", rows(x), rows(got))
			}
			tables++
			least[len(got.Done)]++
			for fewer := 1; fewer < len(got.Done); fewer++ {
				each(fewer, 2, func(y api.Table) {
					if same(x, y) {
						t.Fatalf("%s: %s, though %s does the same", rows(x), rows(got), rows(y))
					}
				})
			}
		})
	}
	if tables != 2+64+5832 || least[1] < 500 || least[2] < 500 || least[3] < 500 {
		t.Errorf("%d tables, made of so many states: %v", tables, least)
	}
}

// P15.3: tables that do the same are made one, those that don't aren't.
func TestOneForm(t *testing.T) {
	r := rand.New(rand.NewSource(3))
	alike, apart := 0, 0
	for i := range 100000 {
		x, y := sample.Table(r.Intn, 1+i%4, 1+i%2), sample.Table(r.Intn, 1+i/2%4, 1+i%2)
		y.Map = x.Map
		is := same(x, y)
		if is != sample.SameTable(minimised(t, x), minimised(t, y)) {
			t.Fatalf("%s and %s do the same: %v", rows(x), rows(y), is)
		}
		if is {
			alike++
		} else {
			apart++
		}
	}
	if alike < 5000 || apart < 5000 {
		t.Errorf("%d pairs do the same, %d don't", alike, apart)
	}
}

// P15.2, P15.3: machines of grown graphs and terms against the model.
func TestMachines(t *testing.T) {
	r := rand.New(rand.NewSource(4))
	before, behind := 0, 0
	for i := range 5000 {
		g := sample.Graph(r.Intn, i%9)
		if x := sample.Grow(r.Intn, 2+i%4); i%2 == 0 && !width.Anchored(x) && width.Positions(x) < 30 {
			g, _ = posn.Build(x)
		}
		x, code := subset.Build(g, i%4 < 2)
		if code != api.OK || len(x.Done) > 60 {
			continue
		}
		got := minimised(t, x)
		if want := model(x); !sample.SameTable(got, want) {
			t.Fatalf("%s:\n%s, not\n%s", sample.ToldTable(x), sample.ToldTable(got), sample.ToldTable(want))
		}
		before, behind = before+len(x.Done), behind+len(got.Done)
	}
	if before < 10000 || behind < 3000 || behind > before-3000 {
		t.Errorf("%d states, then %d", before, behind)
	}
}

// P15.3, and P2: what is handed in isn't changed, answers are new memory, and the same at a second time.
func TestMemory(t *testing.T) {
	r := rand.New(rand.NewSource(5))
	for i := range 3000 {
		x := sample.RoomyTable(sample.Table(r.Intn, 1+i%12, 1+i%4))
		before := sample.RoomyTable(x)
		one := minimised(t, x)
		other := minimised(t, sample.Table(r.Intn, 1+i%7, 1+i%3))
		two := minimised(t, x)
		if !sample.IdenticalTables(x, before) || !sample.SameTable(one, two) {
			t.Fatalf("%v, before %v; %v, then %v", x, before, one, two)
		}
		if !sample.ApartTables(x, one, other, two) {
			t.Fatalf("%v: shared memory", x)
		}
	}
}

// P1: the greatest tables end soon: of all states and classes, parted one by one, at random, or not at all.
func TestGreat(t *testing.T) {
	const states, classes = 300, 256
	r := rand.New(rand.NewSource(6))
	great := func(done, to func(s, class int) int) api.Table {
		x := api.Table{Classes: classes}
		for b := range x.Map {
			x.Map[b] = byte(b)
		}
		for s := range states {
			x.Done = append(x.Done, done(s, 0) != 0)
			for class := range classes {
				x.Next = append(x.Next, uint16(to(s, class)))
			}
		}
		return x
	}
	last := func(s, _ int) int { return s / (states - 1) }
	third := func(s, _ int) int { return s % 3 / 2 }
	on := func(s, _ int) int { return (s + 1) % states }
	for i, c := range []struct {
		x    api.Table
		want int
	}{
		{great(last, on), 300},
		{great(third, on), 3},
		{great(func(s, _ int) int { return 1 }, on), 1},
		{great(last, func(s, _ int) int { return min(s+1, states-1) }), 300},
		{great(last, func(s, class int) int { return min(s+1+class%2, states-1) }), 300},
		{great(last, func(s, class int) int { return (s + class) % states }), 300},
		{great(last, func(s, class int) int { return 0 }), 1},
		{great(func(_, _ int) int { return r.Intn(2) }, func(_, _ int) int { return r.Intn(states) }), 300},
	} {
		got := minimised(t, c.x)
		if len(got.Done) != c.want || !same(c.x, got) || !sample.SameTable(minimised(t, shuffled(r, c.x)), got) {
			t.Errorf("%d: %d states", i, len(got.Done))
		}
	}
}
