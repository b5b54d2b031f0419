package show_test

import (
	"math/rand"
	"strings"
	"testing"

	"riddle/api"
	"riddle/sample"
	"riddle/show"
	"riddle/syntax"
)

// grow gives a right term.
func grow(r *rand.Rand, deep int) api.Term {
	n := 9
	if deep == 0 {
		n = 6
	}
	switch r.Intn(n) {
	case 0:
		return op(api.OpEmpty)
	case 1:
		return op(api.OpDot + r.Intn(3))
	case 2:
		var c api.Class
		for range r.Intn(4) {
			first := r.Intn(256)
			part := span(first, min(255, first+r.Intn(4)))
			for i := range c {
				c[i] |= part[i]
			}
		}
		return api.Term{Op: api.OpSet, Set: c}
	case 3, 4, 5:
		return set("aZ09 |(-]\xff"[r.Intn(10):][:1])
	case 6:
		least := r.Intn(201)
		if r.Intn(2) == 0 {
			least = r.Intn(3)
		}
		return rep(grow(r, deep-1), least, []int{-1, least, least + r.Intn(201-least)}[r.Intn(3)])
	}
	var kids []api.Term
	for range 2 + r.Intn(3) {
		kids = append(kids, grow(r, deep-1))
	}
	return api.Term{Op: api.OpCat + r.Intn(2), Kids: kids}
}

// form writes a term by the document's words, and tells how many brackets are within each other.
func form(t api.Term) (string, int) {
	switch t.Op {
	case api.OpDot:
		return ".", 0
	case api.OpBegin:
		return "^", 0
	case api.OpEnd:
		return "$", 0
	case api.OpSet:
		return setForm(t.Set), 0
	}
	need := map[int][]int{api.OpCat: {api.OpEmpty, api.OpCat, api.OpAlt}, api.OpAlt: {api.OpAlt}, api.OpRep: {api.OpEmpty, api.OpCat, api.OpAlt, api.OpRep}}[t.Op]
	var parts []string
	deepest := 0
	for _, kid := range t.Kids {
		text, deep := form(kid)
		for _, kind := range need {
			if kind == kid.Op {
				text, deep = "("+text+")", deep+1
			}
		}
		parts = append(parts, text)
		deepest = max(deepest, deep)
	}
	switch t.Op {
	case api.OpAlt:
		return strings.Join(parts, "|"), deepest
	case api.OpRep:
		return parts[0] + quant(t.Min, t.Max), deepest
	}
	return strings.Join(parts, ""), deepest
}

// setForm writes a set by the document's words.
func setForm(c api.Class) string {
	has := func(b int) bool { return b < 256 && c[b/64]>>(b%64)&1 == 1 }
	text, n := "", 0
	for b := 0; b < 256; b++ {
		if !has(b) {
			continue
		}
		first := b
		for has(b + 1) {
			b++
		}
		text += char(first)
		if b-first >= 2 {
			text += "-"
		}
		if b > first {
			text += char(b)
		}
		n += b - first + 1
	}
	switch n {
	case 0:
		return "[b-a]"
	case 1:
		return text
	}
	return "[" + text + "]"
}

// P6.1 and P6.2: right terms against the model, and read again.
func TestGrown(t *testing.T) {
	r := rand.New(rand.NewSource(6))
	for range 30000 {
		x := grow(r, 5)
		switch want, deep := form(x); {
		case len(want) > 200:
			refuses(t, want, x, api.ErrLong)
		case deep > 30:
			refuses(t, want, x, api.ErrDeep)
		default:
			shows(t, x, want)
		}
	}
}

// P6.2: what Parse reads, Check takes, unless its form is too long or too deep.
func TestRead(t *testing.T) {
	pieces := strings.Split("( ( ) ) () a b | * + ? . ^ $ {3} {2,} {2,7} {200} {0,0} [a-c] [^\\d] [c-a] \\x41 \\w \\S \\( \xff \x00", " ")
	r := rand.New(rand.NewSource(7))
	tally := map[api.Errno]int{}
	for range 200000 {
		var text string
		for range r.Intn(30) {
			text += pieces[r.Intn(len(pieces))]
		}
		if r.Intn(2) == 0 {
			text += strings.Repeat(" |[^ ]", r.Intn(12))
		}
		x, e, _ := syntax.Parse([]byte(text))
		if e != api.OK {
			continue
		}
		want, deep := form(x)
		code := api.OK
		if len(want) > 200 {
			code = api.ErrLong
		} else if deep > 30 {
			code = api.ErrDeep
		}
		tally[code]++
		if e := show.Check(x); e != code {
			t.Fatalf("%q: %v, not %v", text, e, code)
		}
	}
	if tally[api.OK] < 1000 || tally[api.ErrLong] < 10 {
		t.Errorf("too few texts of a kind: %v", tally)
	}
	// A pattern that is just short and flat enough as it stands, but not in its form.
	x, e, _ := syntax.Parse([]byte(strings.Repeat(" ", 51)))
	if f := show.Check(x); e != api.OK || f != api.ErrLong {
		t.Errorf("blanks: %v, %v", e, f)
	}
}

// P6.2: what is handed in isn't changed; answers are new memory, their spare room too.
func TestMemory(t *testing.T) {
	r := rand.New(rand.NewSource(8))
	for range 2000 {
		x := sample.Roomy(grow(r, 4))
		y := sample.Roomy(x)
		one, e := show.Show(x)
		two, f := show.Show(x)
		want := string(two)
		if show.Check(x) != e || e != f || string(one) != want {
			t.Fatalf("%v: %q, %v, then %q, %v", x, one, e, two, f)
		}
		room := one[:cap(one)]
		for i := range room {
			room[i] = '#'
		}
		if again, _ := show.Show(x); string(two) != want || string(again) != want || !sample.Identical(x, y) {
			t.Fatalf("%v: %q, %q, not %q", x, two, again, want)
		}
	}
	// An answer without bytes may have spare room, too.
	empty, _ := show.Show(op(api.OpEmpty))
	_ = append(empty, '#')
	if again, e := show.Show(op(api.OpEmpty)); e != api.OK || len(again) != 0 || strings.Contains(string(again[:cap(again)]), "#") {
		t.Errorf("%q, %v", again, e)
	}
}
