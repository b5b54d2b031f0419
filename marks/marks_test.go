package marks_test

import (
	"math/rand"
	"slices"
	"testing"

	"riddle/api"
	"riddle/marks"
)

// bound is above all numbers of a set: positions, and the bits of states, of which there is one more.
const bound = api.MaxPositions + 1

// numbers gives the numbers below the bound for which something holds.
func numbers(holds func(p int) bool) []int {
	var out []int
	for p := range bound {
		if holds(p) {
			out = append(out, p)
		}
	}
	return out
}

// Sets against lists of numbers.
func TestSets(t *testing.T) {
	r := rand.New(rand.NewSource(1))
	for i := range 2000 {
		seldom := 1 + i%50
		a := numbers(func(int) bool { return r.Intn(seldom) == 0 })
		b := numbers(func(int) bool { return r.Intn(seldom) == 0 })
		s, joined := marks.Of(a), marks.Of(a)
		joined.Join(marks.Of(b))
		if !slices.Equal(s.List(), a) || s.None() != (len(a) == 0) || (s == marks.Of(b)) != slices.Equal(a, b) {
			t.Fatalf("%v: %v", a, s)
		}
		if got, want := joined.List(), numbers(func(p int) bool { return slices.Contains(a, p) || slices.Contains(b, p) }); !slices.Equal(got, want) {
			t.Fatalf("%v or %v: %v", a, b, got)
		}
		if got, want := s.And(marks.Of(b)).List(), numbers(func(p int) bool { return slices.Contains(a, p) && slices.Contains(b, p) }); !slices.Equal(got, want) {
			t.Fatalf("%v and %v: %v", a, b, got)
		}
		if p := r.Intn(bound); s.Has(p) != slices.Contains(a, p) {
			t.Fatalf("%v: %d", a, p)
		}
		for _, p := range a {
			s.Drop(p)
		}
		if !s.None() {
			t.Fatalf("%v: %v stays", a, s)
		}
	}
}

// All moves of single numbers that leave them below the bound.
func TestUp(t *testing.T) {
	for p := range bound {
		for n := range bound - p {
			if got := marks.Of([]int{p}).Up(n); got != marks.Of([]int{p + n}) {
				t.Fatalf("%d by %d: %v", p, n, got)
			}
		}
	}
}

// Going through a set ends where it is told to.
func TestEach(t *testing.T) {
	var got []int
	for p := range marks.Of([]int{400, 0, 63, 64, 128}).Each {
		if got = append(got, p); p == 64 {
			break
		}
	}
	if !slices.Equal(got, []int{0, 63, 64}) {
		t.Errorf("%v", got)
	}
}
