package sample_test

import (
	"math/rand"
	"slices"
	"testing"

	"riddle/api"
	"riddle/sample"
)

// isRightGraph tells by the document's words whether a graph is right.
func isRightGraph(g api.Graph) bool {
	right := len(g.Sets) == len(g.Follow) && len(g.Sets) <= 400
	for _, list := range append([][]int{g.First, g.Last}, g.Follow...) {
		for k, p := range list {
			right = right && 0 <= p && p < len(g.Sets) && (k == 0 || list[k-1] < p)
		}
	}
	return right
}

// What the tests of other packages trust in: all wrong graphs are wrong, and that of a pattern is its own.
func TestGraphs(t *testing.T) {
	for _, g := range sample.WrongGraphs() {
		if isRightGraph(g) {
			t.Errorf("%v", g)
		}
	}
	if g := sample.GraphOf("(a|b)*c"); !isRightGraph(g) || sample.Told(g) != "abc 0,1,2 2 0,1,2 0,1,2 -" {
		t.Errorf("%v", g)
	}
}

// What the tests of other packages trust in: Graph gives right graphs, in which some positions go on alike, though not all.
func TestGraph(t *testing.T) {
	r := rand.New(rand.NewSource(1))
	alike, apart := 0, 0
	for i := range 2000 {
		g := sample.Graph(r.Intn, i%8)
		if len(g.Sets) != i%8 || !isRightGraph(g) {
			t.Fatalf("%v", g)
		}
		for p := 1; p < i%8; p++ {
			if g.Sets[0] == g.Sets[p] && slices.Equal(g.Follow[0], g.Follow[p]) {
				alike++
			} else {
				apart++
			}
		}
	}
	if alike < 1000 || apart < 1000 {
		t.Errorf("%d positions go on alike, %d don't", alike, apart)
	}
}

// sketch gives a graph with all kinds of lists.
func sketch() api.Graph {
	return api.Graph{Sets: []api.Class{sample.Class("a"), sample.Class(""), sample.Class("bc\n")}, First: []int{0, 2}, Follow: [][]int{{1}, nil, {0, 1, 2}}, Empty: true}
}

// What the tests of other packages trust in: each field is told, and seen if it differs.
func TestTold(t *testing.T) {
	g := sketch()
	if got := sample.Told(g); got != "a<><\nbc> 0,2 - 1 - 0,1,2 empty" {
		t.Errorf("%q", got)
	}
	for i, change := range []func(g *api.Graph){
		func(g *api.Graph) { g.Sets[1][3] = 1 },
		func(g *api.Graph) { g.First[1] = 1 },
		func(g *api.Graph) { g.Last = append(g.Last, 2) },
		func(g *api.Graph) { g.Follow[1] = append(g.Follow[1], 2) },
		func(g *api.Graph) { g.Follow = g.Follow[:2] },
		func(g *api.Graph) { g.Empty = false },
	} {
		other := sketch()
		if !sample.SameGraph(g, other) {
			t.Fatalf("%v isn't %v", g, other)
		}
		change(&other)
		if sample.SameGraph(g, other) || sample.Told(g) == sample.Told(other) {
			t.Errorf("%d: %v, %v", i, g, other)
		}
	}
}

// What the tests of other packages trust in: a change in the spare room is seen, and so is memory that is shared.
func TestRoomyGraph(t *testing.T) {
	g := sketch()
	for i, change := range []func(g *api.Graph){
		func(g *api.Graph) { g.Sets[:4][3][0] = 1 },
		func(g *api.Graph) { g.First[:3][2] = 1 },
		func(g *api.Graph) { g.Last[:2][1] = 1 },
		func(g *api.Graph) { g.Follow[:4][3] = []int{1} },
		func(g *api.Graph) { g.Follow[1][:2][1] = 1 },
	} {
		one, two := sample.RoomyGraph(g), sample.RoomyGraph(g)
		if !sample.IdenticalGraphs(one, two) || !sample.ApartGraphs(g, one, two) {
			t.Fatalf("%v, %v", one, two)
		}
		change(&one)
		if !sample.SameGraph(one, two) || sample.IdenticalGraphs(one, two) {
			t.Errorf("%d: a change in the spare room isn't seen", i)
		}
	}
	for i, share := range []func(g *api.Graph, h api.Graph){
		func(g *api.Graph, h api.Graph) { g.Sets = h.Sets[len(h.Sets):] },
		func(g *api.Graph, h api.Graph) { g.First = h.First },
		func(g *api.Graph, h api.Graph) { g.Last = h.First[2:] },
		func(g *api.Graph, h api.Graph) { g.Follow = h.Follow[3:] },
		func(g *api.Graph, h api.Graph) { g.Follow[1] = h.Follow[2][:1] },
		func(g *api.Graph, h api.Graph) { g.Last = g.Follow[0] },
	} {
		one, two := sample.RoomyGraph(g), sample.RoomyGraph(g)
		share(&one, two)
		if sample.ApartGraphs(one, two) {
			t.Errorf("%d: shared memory isn't seen", i)
		}
	}
}
