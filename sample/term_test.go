package sample_test

import (
	"math/rand"
	"testing"

	"riddle/api"
	"riddle/sample"
)

// What the tests of other packages trust in: the term of a pattern is its own.
func TestTermOf(t *testing.T) {
	a, b := sample.Set("a"), sample.Set("b")
	if x := sample.TermOf("ab|a{2,}"); !sample.Same(x, sample.Alt(sample.Cat(a, b), sample.Rep(a, 2, -1))) {
		t.Errorf("%v", x)
	}
}

// hasAnchor tells whether an anchor stands in a term.
func hasAnchor(t api.Term) bool {
	found := t.Op == api.OpBegin || t.Op == api.OpEnd
	for _, kid := range t.Kids {
		found = found || hasAnchor(kid)
	}
	return found
}

// What the tests of other packages trust in: Free gives right terms of all kinds but anchors.
func TestFree(t *testing.T) {
	r := rand.New(rand.NewSource(1))
	kinds := map[int]int{}
	for range 2000 {
		x := sample.Free(r.Intn, 3)
		if !isRight(x) || hasAnchor(x) {
			t.Fatalf("%v", x)
		}
		kinds[x.Op]++
	}
	if len(kinds) != api.OpNone-2 {
		t.Errorf("kinds %v", kinds)
	}
}

// What the tests of other packages trust in: wrong terms are wrong, of all kinds.
func TestWrongTerms(t *testing.T) {
	kinds := map[int]int{}
	for _, x := range sample.WrongTerms() {
		if isRight(x) {
			t.Errorf("%v", x)
		}
		kinds[x.Op]++
	}
	for kind := range api.OpNone + 2 {
		if kinds[kind] == 0 {
			t.Errorf("none of the kind %d", kind)
		}
	}
}
