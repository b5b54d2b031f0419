package width_test

import (
	"fmt"
	"math/big"
	"math/rand"
	"testing"

	"riddle/api"
	"riddle/sample"
)

// model tells by the document's words what the calls say of a right term, in numbers without bounds; most is nil for any number of bytes.
type model struct {
	least, most, positions *big.Int
	any, anchored          bool
}

func number(n int) *big.Int { return big.NewInt(int64(n)) }

func product(n int, x *big.Int) *big.Int { return new(big.Int).Mul(number(n), x) }

func sum(x, y *big.Int) *big.Int {
	if x == nil || y == nil {
		return nil
	}
	return new(big.Int).Add(x, y)
}

// of gives the model of a term.
func of(t api.Term) model {
	zero, one := number(0), number(1)
	switch t.Op {
	case api.OpEmpty:
		return model{zero, zero, zero, true, false}
	case api.OpBegin, api.OpEnd:
		return model{zero, zero, zero, true, true}
	case api.OpDot:
		return model{one, one, one, true, false}
	case api.OpSet:
		if t.Set == (api.Class{}) {
			return model{zero, zero, one, false, false}
		}
		return model{one, one, one, true, false}
	case api.OpCat:
		return catOf(t.Kids)
	case api.OpAlt:
		return altOf(t.Kids)
	case api.OpRep:
		return repOf(t)
	}
	return model{zero, zero, zero, false, false}
}

func catOf(kids []api.Term) model {
	out := of(op(api.OpEmpty))
	for _, kid := range kids {
		k := of(kid)
		out = model{sum(out.least, k.least), sum(out.most, k.most), sum(out.positions, k.positions), out.any && k.any, out.anchored || k.anchored}
	}
	if !out.any {
		out.least, out.most = number(0), number(0)
	}
	return out
}

func altOf(kids []api.Term) model {
	out := of(op(api.OpNone))
	for _, kid := range kids {
		k := of(kid)
		if k.any && (!out.any || k.least.Cmp(out.least) < 0) {
			out.least = k.least
		}
		if k.any && (k.most == nil || out.most != nil && k.most.Cmp(out.most) > 0) {
			out.most = k.most
		}
		out.any, out.anchored = out.any || k.any, out.anchored || k.anchored
		out.positions = sum(out.positions, k.positions)
	}
	return out
}

func repOf(t api.Term) model {
	k := of(t.Kids[0])
	out := model{product(t.Min, k.least), nil, product(t.Max, k.positions), k.any || t.Min == 0, k.anchored}
	if t.Max == -1 {
		out.positions = product(max(1, t.Min), k.positions)
	}
	if t.Max == 0 || !k.any || k.most != nil && k.most.Sign() == 0 {
		out.most = number(0)
	} else if t.Max != -1 && k.most != nil {
		out.most = product(t.Max, k.most)
	}
	return out
}

// told gives a number as it is told.
func told(x *big.Int) int {
	if x == nil {
		return -1
	}
	if x.Cmp(number(huge)) > 0 {
		return huge
	}
	return int(x.Int64())
}

// check holds the answers of all calls against the model.
func check(t *testing.T, name string, x api.Term) answer {
	t.Helper()
	m := of(x)
	want := answer{told(m.least), told(m.most), m.any, told(m.positions), m.anchored, m.any && m.least.Sign() == 0}
	got := ask(x)
	if got != want {
		t.Errorf("%s: %v: %+v, not %+v", name, x, got, want)
	}
	return got
}

// exactly gives a term that matches so many bytes, and has as many positions.
func exactly(n int) api.Term {
	if n <= 200 {
		return rep(set("a"), n, n)
	}
	return cat(rep(exactly(n/200), 200, 200), exactly(n%200))
}

// P7.1, P7.2: OpRep of each kind of kid, with all kinds of numbers.
func TestRepeats(t *testing.T) {
	a := set("a")
	kids := []api.Term{op(api.OpNone), set(""), op(api.OpEmpty), op(api.OpBegin), a, cat(a, a), alt(a, op(api.OpEmpty)), rep(a, 0, -1), rep(a, 2, -1), rep(a, 0, 0), rep(op(api.OpNone), 0, 3), alt(cat(a, a), rep(a, 3, 5)), exactly(huge), exactly(huge + 1), rep(exactly(huge), 0, 1), rep(exactly(huge), 0, 0)}
	for i, kid := range kids {
		for _, least := range []int{0, 1, 2, 3, 199, 200} {
			for _, most := range []int{-1, least, least + 1, 199, 200} {
				if most != -1 && (most < least || most > 200) {
					continue
				}
				check(t, fmt.Sprint(i, least, most), rep(kid, least, most))
				check(t, fmt.Sprint("twice", i, least, most), rep(rep(kid, least, most), 0, 2))
			}
		}
	}
}

// P7.1, P7.2: numbers around the greatest that is told, and far above it.
func TestHuge(t *testing.T) {
	for _, n := range []int{1, 200, 201, huge - 200, huge - 1, huge, huge + 1, huge + 200, 2 * huge, 1<<62 + 1} {
		x, want := exactly(n), min(n, huge)
		if got := check(t, fmt.Sprint(n), x); got != matches(want, want, want) {
			t.Errorf("%d: %+v", n, got)
		}
		for i, y := range []api.Term{cat(x, x), cat(x, set("a")), cat(set("a"), x), alt(x, set("a")), alt(x, x), alt(x, rep(x, 0, -1)), rep(x, 0, 0), rep(x, 0, 1), rep(x, 2, -1), rep(x, 200, 200), cat(x, op(api.OpNone)), rep(cat(x, set("")), 0, 7)} {
			check(t, fmt.Sprint(n, i), y)
		}
	}
	// Numbers that would wrap round, to 0 and to less than 0.
	for n := range 100 {
		x := sample.Nest(set("a"), n, func(x api.Term) api.Term { return rep(x, 128, 128) })
		check(t, fmt.Sprint("levels ", n), x)
		check(t, fmt.Sprint("levels by four ", n), cat(x, x, x, x))
	}
}

// P7.1, P7.2, P7.3: grown terms, their repeats as they are, and with great numbers.
func TestGrown(t *testing.T) {
	r := rand.New(rand.NewSource(7))
	var enlarge func(x api.Term) api.Term
	enlarge = func(x api.Term) api.Term {
		for i := range x.Kids {
			x.Kids[i] = enlarge(x.Kids[i])
		}
		if x.Op == api.OpRep {
			x.Min = r.Intn(201)
			x.Max = []int{-1, x.Min, x.Min + r.Intn(201-x.Min)}[r.Intn(3)]
		}
		return x
	}
	tally := map[string]int{}
	for i := range 20000 {
		x := sample.Grow(r.Intn, 2+i%5)
		check(t, fmt.Sprint(i), x)
		got := check(t, fmt.Sprint(i, " enlarged"), sample.Nest(enlarge(x), i%7, func(x api.Term) api.Term { return rep(x, i%2, 200) }))
		tally[fmt.Sprint(got.any, got.most == -1, got.most == huge)]++
	}
	for _, kind := range []string{"false false false", "true false false", "true true false", "true false true"} {
		if tally[kind] < 100 {
			t.Errorf("too few terms of a kind: %v", tally)
		}
	}
}

// longest is the number of bytes up to which lengths are told.
const longest = 400

// lengths tells how many bytes a term matches by its meaning alone: the bit n is set, if it can match n.
func lengths(t api.Term) *big.Int {
	switch t.Op {
	case api.OpEmpty, api.OpBegin, api.OpEnd:
		return number(1)
	case api.OpDot:
		return number(2)
	case api.OpSet:
		if t.Set != (api.Class{}) {
			return number(2)
		}
	case api.OpCat:
		out := number(1)
		for _, kid := range t.Kids {
			out = sums(out, lengths(kid))
		}
		return out
	case api.OpAlt:
		out := number(0)
		for _, kid := range t.Kids {
			out.Or(out, lengths(kid))
		}
		return out
	case api.OpRep:
		return repeated(lengths(t.Kids[0]), t.Min, t.Max)
	}
	return number(0)
}

// sums gives the sums of one length and another one.
func sums(x, y *big.Int) *big.Int {
	out := number(0)
	for i := range x.BitLen() {
		if x.Bit(i) == 1 {
			out.Or(out, new(big.Int).Lsh(y, uint(i)))
		}
	}
	below := new(big.Int).Lsh(number(1), longest)
	return out.And(out, below.Sub(below, number(1)))
}

// repeated gives the sums of some number of lengths.
func repeated(kid *big.Int, least, most int) *big.Int {
	now := number(1)
	for range least {
		now = sums(now, kid)
	}
	out := new(big.Int).Set(now)
	for k := least; most == -1 || k < most; k++ {
		now = sums(now, kid)
		before := new(big.Int).Set(out)
		out.Or(out, now)
		if out.Cmp(before) == 0 && most == -1 {
			// Nothing new: each length that comes later is one more of those that came.
			break
		}
	}
	return out
}

// laidOut counts the sets of a term whose repeats are laid out as layer 11 tells.
func laidOut(t api.Term) int {
	if t.Op == api.OpSet || t.Op == api.OpDot {
		return 1
	}
	copies := 1
	if t.Op == api.OpRep && t.Max == -1 && t.Min > 0 {
		copies = t.Min - 1 + 1 // so many times x, and x+
	} else if t.Op == api.OpRep && t.Max != -1 {
		copies = t.Min + (t.Max - t.Min) // so many times x, and x? within one another
	}
	n := 0
	for range copies {
		for _, kid := range t.Kids {
			n += laidOut(kid)
		}
	}
	return n
}

// P7.1, P7.2: grown terms against the lengths that they match, and the sets that they have laid out.
func TestMeaning(t *testing.T) {
	r := rand.New(rand.NewSource(8))
	tally := map[bool]int{}
	for range 3000 {
		x := sample.Grow(r.Intn, 1+r.Intn(4))
		all, want := lengths(x), answer{}
		if all.Sign() != 0 {
			want = answer{least: int(all.TrailingZeroBits()), most: all.BitLen() - 1, any: true}
		}
		// Of four levels none can match half of that, unless it has no bound.
		if want.most > longest/2 {
			want.most = -1
		}
		tally[want.most == -1]++
		got := ask(x)
		if got.least != want.least || got.most != want.most || got.any != want.any || got.positions != laidOut(x) {
			t.Fatalf("%v: %+v, not %+v, %d", x, got, want, laidOut(x))
		}
	}
	if tally[false] < 100 || tally[true] < 100 {
		t.Errorf("too few terms of a kind: %v", tally)
	}
}

// P7.3: what is handed in isn't changed, and the answers are the same again.
func TestHandedIn(t *testing.T) {
	r := rand.New(rand.NewSource(9))
	for range 2000 {
		x := sample.Roomy(sample.Grow(r.Intn, 4))
		before := sample.Roomy(x)
		if one, two := ask(x), ask(x); one != two || !sample.Identical(x, before) {
			t.Fatalf("%v, before %v: %+v, %+v", x, before, one, two)
		}
	}
}
