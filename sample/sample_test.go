package sample_test

import (
	"math/rand"
	"testing"

	"riddle/api"
	"riddle/sample"
)

// isRight tells by the document's words whether a term is right, but for OpNone, which may stand in it, too.
func isRight(t api.Term) bool {
	kids, bounds := len(t.Kids) == 0, t.Min == 0 && t.Max == 0
	switch t.Op {
	case api.OpCat, api.OpAlt:
		kids = len(t.Kids) >= 2
	case api.OpRep:
		kids = len(t.Kids) == 1
		bounds = 0 <= t.Min && t.Min <= 200 && (t.Max == -1 || t.Min <= t.Max && t.Max <= 200)
	}
	for _, kid := range t.Kids {
		kids = kids && isRight(kid)
	}
	return kids && bounds && t.Op >= api.OpEmpty && t.Op <= api.OpNone && (t.Op == api.OpSet || t.Set == api.Class{})
}

// levels tells how many terms are within each other.
func levels(t api.Term) int {
	n := 0
	for _, kid := range t.Kids {
		n = max(n, levels(kid))
	}
	return n + 1
}

// What the tests of other packages trust in: Grow gives right terms, of all kinds, none too deep.
func TestGrow(t *testing.T) {
	r := rand.New(rand.NewSource(1))
	kinds, deepest := map[int]int{}, 0
	for range 2000 {
		x := sample.Grow(r.Intn, 4)
		if !isRight(x) || levels(x) > 4 {
			t.Fatalf("%v", x)
		}
		kinds[x.Op]++
		deepest = max(deepest, levels(x))
	}
	if len(kinds) != api.OpNone || deepest != 4 {
		t.Errorf("kinds %v, deepest %d", kinds, deepest)
	}
}

// What the tests of other packages trust in: Roomy shares nothing, and Identical sees a change in the spare room.
func TestRoomy(t *testing.T) {
	x := sample.Cat(sample.Set("a"), sample.Rep(sample.Set("b"), 2, 3))
	y, z := sample.Roomy(x), sample.Roomy(x)
	if !sample.Same(x, y) || !sample.Identical(y, z) {
		t.Fatalf("%v, %v, %v", x, y, z)
	}
	room := y.Kids[1].Kids
	room[:cap(room)][1].Min = 1
	if !sample.Same(y, z) || sample.Identical(y, z) {
		t.Errorf("a change in the spare room isn't seen")
	}
	y.Kids[1].Kids[0].Set = api.Class{}
	if sample.Same(y, z) || !sample.Same(x, z) {
		t.Errorf("a change isn't seen, or is seen elsewhere")
	}
}

// What the tests of other packages trust in: Apart sees lists that are shared, be it in their spare room alone.
func TestApart(t *testing.T) {
	x := sample.Cat(sample.Set("a"), sample.Rep(sample.Set("b"), 2, 3))
	list := make([]api.Term, 2, 4)
	one, two := x, x
	one.Kids, two.Kids = list[:2:3], list[3:4]
	if !sample.Apart(x, sample.Roomy(x), sample.Roomy(x)) || !sample.Apart(one, two) {
		t.Errorf("memory is seen as shared")
	}
	two.Kids = list[2:4]
	if sample.Apart(x, x) || sample.Apart(x, x.Kids[1]) || sample.Apart(one, two) || sample.Apart(sample.Cat(x.Kids[1], x.Kids[1])) {
		t.Errorf("shared memory isn't seen")
	}
}
