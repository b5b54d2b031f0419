package fold_test

import (
	"math"
	"math/rand"
	"reflect"
	"testing"

	"riddle/api"
	"riddle/fold"
	"riddle/sample"
)

// Short names for the terms of samples.
var (
	set, op       = sample.Set, sample.Op
	cat, alt, rep = sample.Cat, sample.Alt, sample.Rep
)

// has tells whether a byte is in a class.
func has(c api.Class, b int) bool {
	return c[b/64]>>(b%64)&1 == 1
}

// otherCase gives a letter in its other case, and any other byte as it is.
func otherCase(b int) int {
	switch {
	case 'a' <= b && b <= 'z':
		return b - 32
	case 'A' <= b && b <= 'Z':
		return b + 32
	}
	return b
}

// meant gives by the document's words the class of a term with flags: that of an OpSet or an OpDot.
func meant(t api.Term, flags int) api.Class {
	var c api.Class
	for b := range 256 {
		in := has(t.Set, b) || flags%2 == 1 && has(t.Set, otherCase(b))
		if t.Op == api.OpDot {
			in = b != 10 || flags >= 2
		}
		if in {
			c[b/64] |= 1 << (b % 64)
		}
	}
	return c
}

// resolved gives by the document's words a term as flags mean it.
func resolved(t api.Term, flags int) api.Term {
	var kids []api.Term
	for _, kid := range t.Kids {
		kids = append(kids, resolved(kid, flags))
	}
	if t.Op == api.OpSet || t.Op == api.OpDot {
		return api.Term{Op: api.OpSet, Set: meant(t, flags)}
	}
	return api.Term{Op: t.Op, Min: t.Min, Max: t.Max, Kids: kids}
}

// resolves holds what Resolve gives against the model.
func resolves(t *testing.T, x api.Term, flags int) {
	t.Helper()
	if got, e := fold.Resolve(x, flags); e != api.OK || !sample.Same(got, resolved(x, flags)) {
		t.Errorf("%v, %d: %v, %v, not %v", x, flags, got, e, resolved(x, flags))
	}
}

// P8.1: each kind of term, by itself and within others, with each sum of flags.
func TestResolve(t *testing.T) {
	list := []api.Term{op(api.OpEmpty), op(api.OpDot), op(api.OpBegin), op(api.OpEnd), op(api.OpNone), set(""), set("k"), set("K"), set("kK"), set("az"), set("@AZ[`az{"), set("\n"), set("\x00\xff"), set("4_."), {Op: api.OpSet, Set: api.Class{1 << 63, 1, 1 << 63, 1}}}
	for b := range 256 {
		list = append(list, set(string([]byte{byte(b)})))
	}
	for flags := range 4 {
		for _, x := range list {
			resolves(t, x, flags)
			resolves(t, cat(x, op(api.OpDot)), flags)
			resolves(t, alt(set("q"), x, set("q")), flags)
			resolves(t, rep(cat(set("1"), alt(x, rep(x, 0, -1))), 2, 200), flags)
		}
	}
}

// P8.1: grown terms.
func TestResolveGrown(t *testing.T) {
	r := rand.New(rand.NewSource(1))
	for i := range 5000 {
		resolves(t, sample.Grow(r.Intn, 5), i%4)
	}
}

// P8.1: what a dot is, told without the model.
func TestDot(t *testing.T) {
	all := api.Class{math.MaxUint64, math.MaxUint64, math.MaxUint64, math.MaxUint64}
	but := all
	but[0] -= 1 << 10
	for flags, want := range []api.Class{but, but, all, all} {
		if got, e := fold.Resolve(op(api.OpDot), flags); e != api.OK || got.Op != api.OpSet || got.Set != want {
			t.Errorf("%d: %v, %v", flags, got, e)
		}
	}
	if api.FlagFold != 1 || api.FlagDot != 2 {
		t.Error("the flags have other numbers")
	}
}

// P8.1: flags that are no sum, with a zero term beside the error; terms that aren't right, too.
func TestFlags(t *testing.T) {
	for _, flags := range []int{-1, -2, -3, -4, 4, 5, 6, 7, 8, 255, 256, 1<<32 + 1, math.MinInt, math.MinInt + 1, math.MinInt + 3, math.MaxInt} {
		for _, x := range []api.Term{set("a"), op(api.OpDot), cat(set("a"), op(api.OpDot)), {}, op(-1)} {
			if got, e := fold.Resolve(x, flags); e != api.ErrFlags || !reflect.DeepEqual(got, api.Term{}) {
				t.Errorf("%d: %v, %v", flags, got, e)
			}
		}
	}
}

// P1: terms that aren't right; nothing is asked but that all calls end.
func TestWrong(t *testing.T) {
	a := set("a")
	var wrong []api.Term
	for _, n := range []int{math.MinInt, -2, -1, 0, 1, 2, 201, math.MaxInt} {
		wrong = append(wrong, op(n), api.Term{Op: n, Min: n, Max: n, Set: api.Class{1}, Kids: []api.Term{a, {}}}, rep(a, n, n), rep(rep(a, 1, n), n, 1), rep(op(api.OpNone), n, n))
	}
	for kind := range api.OpNone + 2 {
		wrong = append(wrong, op(kind), api.Term{Op: kind, Set: api.Class{0, 1}}, api.Term{Op: kind, Kids: []api.Term{a}}, api.Term{Op: kind, Min: 1, Max: 1, Kids: []api.Term{op(kind)}}, api.Term{Op: kind, Min: -3, Max: -2, Kids: []api.Term{{}, a, op(api.OpRep), op(kind), op(kind)}})
	}
	for _, x := range wrong {
		for _, y := range []api.Term{x, cat(x, a), cat(x, x), alt(a, x), alt(x, x, x), rep(x, 1, 1), rep(x, 0, -1), cat(alt(x, rep(x, 2, 3)), a)} {
			fold.Simple(y)
			for flags := range 4 {
				fold.Resolve(y, flags)
			}
		}
	}
}

// memory tells what is wrong with the memory of what a call gives.
func memory(t *testing.T, r *rand.Rand, call func(api.Term) api.Term) {
	t.Helper()
	x := sample.Roomy(sample.Grow(r.Intn, 5))
	before := sample.Roomy(x)
	one, two := call(x), call(x)
	if !sample.Identical(x, before) || !sample.Same(one, two) {
		t.Fatalf("%v, before %v: %v, then %v", x, before, one, two)
	}
	if !sample.Apart(x, one, two) {
		t.Fatalf("%v: %v and %v share memory", before, one, two)
	}
	for _, slot := range append(sample.Slots(one), sample.Slots(x)...) {
		*slot = op(-7)
	}
	if again := call(before); !sample.Same(two, again) {
		t.Fatalf("%v: %v, not %v", before, two, again)
	}
}

// P8.3: what is handed in isn't changed and isn't kept; answers are new memory, their spare room too.
func TestMemory(t *testing.T) {
	r := rand.New(rand.NewSource(3))
	for i := range 4000 {
		memory(t, r, fold.Simple)
		memory(t, r, func(x api.Term) api.Term {
			y, _ := fold.Resolve(x, i%4)
			return y
		})
	}
}
