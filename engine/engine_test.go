package engine_test

import (
	"bytes"
	"fmt"
	"math"
	"math/rand"
	"slices"
	"strings"
	"testing"

	"riddle/api"
	"riddle/ends"
	"riddle/engine"
	"riddle/posn"
	"riddle/sample"
	"riddle/subset"
	"riddle/trim"
	"riddle/width"
)

// modes gives all modes.
func modes() []int {
	return []int{engine.Free, engine.Always, engine.Once}
}

// made gives the engine of a term that has one.
func made(t *testing.T, x api.Term, mode int) *engine.Engine {
	t.Helper()
	e, code := engine.New(x, mode)
	if code != api.OK || e == nil {
		t.Fatalf("%.300s, mode %d: %v", fmt.Sprint(x), mode, code)
	}
	return e
}

// refuses holds that a term has no engine, and why.
func refuses(t *testing.T, x api.Term, mode int, want api.Errno) {
	t.Helper()
	if e, code := engine.New(x, mode); e != nil || code != want {
		t.Errorf("%.300s, mode %d: %v, not %v", fmt.Sprint(x), mode, code, want)
	}
}

// give lets an engine take the bytes of a text; an exclamation mark arms it.
func give(e *engine.Engine, text string) {
	for _, b := range []byte(text) {
		if b == '!' {
			e.Arm()
		} else {
			e.Step(b)
		}
	}
}

// told gives an engine's way through a text as the answers of Done: the first one is that at the beginning.
func told(e *engine.Engine, text string) string {
	var out strings.Builder
	out.WriteString(answer(e.Done()))
	for i := range text {
		give(e, text[i:i+1])
		out.WriteString(answer(e.Done()))
	}
	return out.String()
}

// answer gives an answer of Done as a text.
func answer(done bool) string {
	if done {
		return "1"
	}
	return "0"
}

// expected gives by the document's words, and layer 10, what told gives.
func expected(x api.Term, mode int, text string) string {
	w := []byte(strings.ReplaceAll(text, "!", ""))
	from := map[int][]int{}
	for i := range len(w) + 1 {
		from[i] = ends.From(x, w, i)
	}
	moments, now := map[int]struct{}{}, 0
	if mode != engine.Free {
		moments[0] = struct{}{}
	}
	done := func() string {
		is := false
		for i := range moments {
			is = is || slices.Contains(from[i], now)
		}
		return answer(is)
	}
	out := done()
	for _, b := range []byte(text) {
		if b != '!' {
			now++
		}
		if b != '!' && mode == engine.Always || b == '!' && mode == engine.Free {
			moments[now] = struct{}{}
		}
		out += done()
	}
	return out
}

// kind gives by the document's words (P21.2) the kind that an engine must be of, and how many states it has, if it is of States.
func kind(t *testing.T, x api.Term, mode int) (kind, states int) {
	t.Helper()
	if mode == engine.Free {
		if x.Op == api.OpRep && x.Kids[0].Op == api.OpSet {
			return engine.Counted, 0
		}
		return engine.Positions, 0
	}
	g, first := posn.Build(x)
	g, second := trim.Trim(g)
	g, third := trim.Merge(g)
	table, code := subset.Build(g, mode == engine.Always)
	if first != api.OK || second != api.OK || third != api.OK {
		t.Fatalf("%v: %v, %v, %v", x, first, second, third)
	}
	if code == api.ErrStates {
		return engine.Positions, 0
	}
	return engine.States, len(table.Done)
}

// fits tells whether a Size is one that P21.5 allows.
func fits(x api.Term, kind, size int) bool {
	switch kind {
	case engine.Positions:
		return size <= (width.Positions(x)+8)/8
	case engine.States:
		return size == 2
	}
	top := max(x.Min, x.Max)
	return size == max((top+8)/8, 2)
}

func TestExamples(t *testing.T) {
	x := sample.TermOf("ab")
	for i, c := range []struct {
		mode int
		text string
		done bool
	}{{engine.Free, "!ab", true}, {engine.Always, "aab", true}, {engine.Once, "aab", false}} {
		e := made(t, x, c.mode)
		give(e, c.text)
		if e.Done() != c.done {
			t.Errorf("%d: %v", i, e.Done())
		}
	}
}

// The numbers of modes and kinds are those of the document.
func TestNumbers(t *testing.T) {
	if got := []int{engine.Free, engine.Always, engine.Once, engine.Positions, engine.States, engine.Counted}; !slices.Equal(got, []int{0, 1, 2, 1, 2, 3}) {
		t.Errorf("%v", got)
	}
}

// P21.1: other modes than the three, whatever the term is.
func TestModes(t *testing.T) {
	for _, mode := range []int{math.MinInt, -256, -3, -2, -1, 3, 4, 5, 256, 257, 258, 1 << 32, 1<<32 + 1, math.MaxInt} {
		for _, text := range []string{"", "a", "a{2,3}", "a.{9}", "^a", "(a{200}){2}b"} {
			refuses(t, sample.TermOf(text), mode, api.ErrArg)
		}
	}
}

// P21.1: anchors anywhere, also where nothing comes of them, and ahead of too many positions.
func TestAnchored(t *testing.T) {
	for _, text := range []string{"^", "$", "^a", "a$", "a|^", "(a^)*", "(^){0}", "[b-a]$", "(a|(b$)?)c", "(a{200}){2}b$", "^(a{200}){3}", "(a{200}){2}|^"} {
		for _, mode := range modes() {
			refuses(t, sample.TermOf(text), mode, api.ErrArg)
		}
	}
}

// P21.1: as many positions as there may be, and more; those that come to nothing count, too.
func TestPositions(t *testing.T) {
	for text, right := range map[string]bool{
		"(a{200}){2}": true, "(a{200}){2}b": false, "(a{200}){2}[b-a]": false, "(a{200}){2}a{0}": true, "(a{200}){2}()": true, "(a{200}){3}": false, "((a|b){200}){0,1}": true, "((a|b){200})+c": false, "((a|b){200})*c{0}": true,
		"(a{200}){199}": false, "((a{200}){200}){0}": true, "(a{0,200}){0,2}": true, "(a{0,200}){0,2}|b": false, "(a{200,}){2,}": true, "(a{200,}){2,}.": false, "(.{100}[ab]{100}){2}": true, "(.{100}[ab]{100}){2}[b-a]*": false,
	} {
		for _, mode := range modes() {
			if right {
				made(t, sample.TermOf(text), mode)
			} else {
				refuses(t, sample.TermOf(text), mode, api.ErrPositions)
			}
		}
	}
	deep := sample.Nest(sample.Set("a"), 5000, func(x api.Term) api.Term { return sample.Rep(x, 200, 200) })
	none := sample.Nest(sample.Op(api.OpNone), 5000, func(x api.Term) api.Term { return sample.Rep(x, 200, 200) })
	for _, mode := range modes() {
		refuses(t, deep, mode, api.ErrPositions)
		made(t, none, mode)
	}
}

// P21.2: kinds told by hand: in the modes Free, Always and Once.
func TestKinds(t *testing.T) {
	const bits, states, counted = engine.Positions, engine.States, engine.Counted
	for text, want := range map[string][3]int{
		"":                 {bits, states, states},
		"ab":               {bits, states, states},
		"a":                {bits, states, states},
		"a*":               {counted, states, states},
		"a+":               {counted, states, states},
		"a?":               {counted, states, states},
		"a{0}":             {counted, states, states},
		"a{1}":             {counted, states, states},
		"a{200}":           {counted, states, states},
		"a{2,200}":         {counted, states, states},
		"a{200,}":          {counted, states, states},
		"[a-z\\n]{2,3}":    {counted, states, states},
		"[b-a]{2,3}":       {counted, states, states},
		".{2,3}":           {bits, states, states}, // a dot is no OpSet
		"(a*)*":            {bits, states, states},
		"(ab)*":            {bits, states, states},
		"(a|b)*":           {bits, states, states},
		"a{2}b":            {bits, states, states},
		"a*|b":             {bits, states, states},
		"(a{2})":           {counted, states, states},
		"a.{9}":            {bits, bits, states},
		"a.{7}":            {bits, states, states},
		"(a|b)*a(a|b){9}":  {bits, bits, bits},
		"(a|b)*a(a|b){7}":  {bits, states, states},
		"[b-a]a.{9}":       {bits, states, states}, // what comes to nothing is trimmed away
		"(a.{9}|b.{9}){0}": {bits, states, states},
		// Behind a that came too often, or a byte that is none of both, the machine armed once alone comes to a state of its own.
		"a{200}b{97}":  {bits, states, states}, // 298 states, and 299
		"a{200}b{98}":  {bits, states, states}, // 299, and 300
		"a{200}b{99}":  {bits, states, bits},   // 300, and 301
		"a{200}b{100}": {bits, bits, bits},
		"a{200}b{200}": {bits, bits, bits},
		// What comes to nothing isn't counted, and what goes on alike is counted once: once that is gone.
		"a.{9}[b-a]":                          {bits, states, states},
		"ax{100}|bx{100}|cx{100}":             {bits, states, states},
		"ax{100}|bx{99}x[b-a]?|cx{99}x[b-a]?": {bits, states, states},
		"ax{100}|bx{100}|cx{99}y":             {bits, states, states},
		"ax{100}|bx{99}y|cx{99}z":             {bits, bits, bits},
	} {
		for mode, want := range want {
			if mode == engine.Always || mode == engine.Once {
				if k, n := kind(t, sample.TermOf(text), mode); k != want {
					t.Errorf("%q, mode %d: %d states: the table above is wrong", text, mode, n)
				}
			}
			if got := made(t, sample.TermOf(text), mode).Kind(); got != want {
				t.Errorf("%q, mode %d: %d, not %d", text, mode, got, want)
			}
		}
	}
}

// P21.3: ways told by hand, from the beginning on.
func TestByHand(t *testing.T) {
	for i, c := range []struct {
		text string
		mode int
		way  string
		want string
	}{
		{"ab", engine.Free, "ab", "000"},
		{"ab", engine.Free, "!ab", "0001"},
		{"ab", engine.Free, "!!a!bab", "00000100"},
		{"ab", engine.Free, "!axb!ab", "00000001"},
		{"ab", engine.Free, "!xab", "00000"},
		{"ab", engine.Always, "aabab", "000101"},
		{"ab", engine.Always, "!!ba!b", "0000001"},
		{"ab", engine.Once, "abab", "00100"},
		{"ab", engine.Once, "!xa!b", "000000"},
		{"ab", engine.Once, "aab", "0000"},
		{"", engine.Free, "a!a!!", "001011"},
		{"", engine.Always, "ab", "111"},
		{"", engine.Once, "ab", "100"},
		{"a?", engine.Free, "!aa!b!!a", "011010111"},
		{"a?", engine.Always, "ba", "111"},
		{"a?", engine.Once, "aa", "110"},
		{"a*", engine.Free, "a!aab!a!!b", "00111011110"},
		{"a+", engine.Free, "!aa!ba", "0011100"},
		{"a{2,3}", engine.Free, "!aa!aaaa", "000111110"},
		{"a{2,3}", engine.Always, "aaabaa", "0011001"},
		{"a{2,3}", engine.Once, "aaaa", "00110"},
		{"a{0}", engine.Free, "!a!!b", "010110"},
		{"[b-a]", engine.Free, "!a!b", "00000"},
		{"[b-a]*", engine.Free, "!a!b", "01010"},
		{"[b-a]?", engine.Once, "ab", "100"},
		{".{2}", engine.Free, "!a\n!bc", "0000001"},
		{"(a|b)*c", engine.Free, "!abc!c", "0000111"},
		{"(ab|b)c", engine.Always, "abcbc", "000101"},
		{"a.{9}", engine.Always, "aaaaaaaaaaaa\naaaaaaaaaaa", "0000000000111000000000011"},
		{"a.{9}", engine.Once, "aaaaaaaaaaa", "000000000010"},
	} {
		e := made(t, sample.TermOf(c.text), c.mode)
		if got := told(e, c.way); got != c.want {
			t.Errorf("%d: %q, mode %d, by %q: %s, not %s", i, c.text, c.mode, c.way, got, c.want)
		}
		if got := expected(sample.TermOf(c.text), c.mode, c.way); got != c.want {
			t.Errorf("%d: %q, mode %d, by %q: %s: the table above is wrong", i, c.text, c.mode, c.way, got)
		}
	}
	none := sample.Op(api.OpNone)
	for _, mode := range modes() {
		if got := told(made(t, none, mode), "!a!b"); got != "00000" {
			t.Errorf("mode %d: %s", mode, got)
		}
	}
}

// grow gives a term without anchors: often one for a counter, or one that has many states.
func grow(r *rand.Rand) api.Term {
	set := sample.Set([]string{"", "a", "ab", "ab\xff", "\n"}[r.Intn(5)])
	switch r.Intn(6) {
	case 0:
		least := r.Intn(5)
		return sample.Rep(set, least, []int{-1, least, least + r.Intn(20), 200}[r.Intn(4)])
	case 1:
		a, any := sample.Set("a"), sample.Set("abA\n\xff")
		return sample.Cat(sample.Free(r.Intn, 2), sample.Rep(any, 0, -1), a, sample.Rep(any, 8+r.Intn(2), 9), sample.Rep(set, 0, r.Intn(3)))
	}
	return sample.Free(r.Intn, 2+r.Intn(4))
}

// way gives a text of few letters, with exclamation marks.
func way(r *rand.Rand, most int) string {
	letters := []string{"ab", "aaab!", "abA\n\xff!", "aa!b!"}[r.Intn(4)]
	return string(sample.Text(r.Intn, letters, most))
}

// P21.2, P21.3, P21.5: grown terms against layer 10, and of the kinds and sizes that they must be.
func TestGrown(t *testing.T) {
	r := rand.New(rand.NewSource(21))
	met := map[[2]int]int{}
	done := 0
	for range 4000 {
		x := grow(r)
		for _, mode := range modes() {
			e := made(t, x, mode)
			if k, _ := kind(t, x, mode); e.Kind() != k || !fits(x, k, e.Size()) {
				t.Fatalf("%v, mode %d: kind %d, not %d; Size %d", x, mode, e.Kind(), k, e.Size())
			}
			met[[2]int{mode, e.Kind()}]++
			text := way(r, 30)
			got, want := told(e, text), expected(x, mode, text)
			if got != want {
				t.Fatalf("%v, mode %d, by %q: %s, not %s", x, mode, text, got, want)
			}
			done += strings.Count(got, "1")
		}
	}
	for _, k := range [][2]int{{engine.Free, engine.Positions}, {engine.Free, engine.Counted}, {engine.Always, engine.States}, {engine.Always, engine.Positions}, {engine.Once, engine.States}, {engine.Once, engine.Positions}} {
		if met[k] < 50 {
			t.Errorf("mode %d, kind %d: only %d engines", k[0], k[1], met[k])
		}
	}
	if done < 20000 {
		t.Errorf("done only %d times", done)
	}
}

// P21.3: each byte, by itself, in each mode.
func TestBytes(t *testing.T) {
	all := ""
	for b := range 256 {
		all += string([]byte{byte(b)})
	}
	for _, text := range []string{"", "a", "\x00", "\xff", "\x00?@\x7f\x80\xbf\xc0\xff", all[1:], all} {
		x := sample.Set(text)
		for _, y := range []api.Term{x, sample.Rep(x, 1, 2), sample.Cat(x, sample.Rep(x, 0, 1))} {
			for _, mode := range modes() {
				e := made(t, y, mode)
				for b := range 256 {
					e.Reset()
					e.Arm()
					e.Step(byte(b))
					if is := strings.Contains(text, string([]byte{byte(b)})); e.Done() != is {
						t.Errorf("%q, mode %d, by %d: %v", text, mode, b, !is)
					}
				}
			}
		}
	}
}

// sorts gives terms of which there are engines of all kinds, in all modes.
func sorts() []api.Term {
	var out []api.Term
	for _, text := range []string{"", "a", "ab", "a?", "a*", "a+", "a{2,3}", "[ab]{3,}", "a{0}", "[b-a]", "[b-a]*", "a{7}", "a{8}", "a{14}", "a{15}", "a{16,}", "a{200}", "a{2,200}", "(a|b)*c", "(ab?){2,3}", "a.{7}", "a.{9}", "(a|b)*a(a|b){9}", "(a{200}){2}", "(a|bb){7}", "(a|b)*ab{54}a{5}", "(ab{3}){16}|b", ".*a.{62}", ".*a.{63}.?"} {
		out = append(out, sample.TermOf(text))
	}
	return append(out, sample.Op(api.OpNone))
}

// each calls f for an engine of each sort and mode.
func each(t *testing.T, f func(x api.Term, mode int)) {
	t.Helper()
	for _, x := range sorts() {
		for _, mode := range modes() {
			f(x, mode)
		}
	}
}

// P21.3: Reset, at any time, and again and again, gives the engine as New gave it.
func TestReset(t *testing.T) {
	r := rand.New(rand.NewSource(22))
	each(t, func(x api.Term, mode int) {
		e := made(t, x, mode)
		saved := e.Save()
		for range 40 {
			give(e, way(r, 30))
			e.Reset()
			text := way(r, 30)
			if got := e.Save(); !bytes.Equal(got, saved) {
				t.Fatalf("%v, mode %d: %v, not %v", x, mode, got, saved)
			}
			if got, want := told(e, text), told(made(t, x, mode), text); got != want {
				t.Fatalf("%v, mode %d, by %q: %s, not %s", x, mode, text, got, want)
			}
		}
	})
}

// P21.4, P21.5: Size stays; what is saved at any time is loaded anywhere, and goes on alike, and is saved again as it was.
func TestSaved(t *testing.T) {
	r := rand.New(rand.NewSource(23))
	each(t, func(x api.Term, mode int) {
		e, other := made(t, x, mode), made(t, x, mode)
		size := e.Size()
		if !fits(x, e.Kind(), size) {
			t.Fatalf("%v, mode %d: Size %d", x, mode, size)
		}
		for range 60 {
			give(e, way(r, 12))
			give(other, way(r, 20))
			saved := e.Save()
			if e.Size() != size || len(saved) != size {
				t.Fatalf("%v, mode %d: Size %d, then %d; %v", x, mode, size, e.Size(), saved)
			}
			if code := other.Load(saved); code != api.OK || !bytes.Equal(other.Save(), saved) {
				t.Fatalf("%v, mode %d, %v: %v, %v", x, mode, saved, code, other.Save())
			}
			text := way(r, 20)
			if got, want := told(other, text), told(e, text); got != want || !bytes.Equal(other.Save(), e.Save()) {
				t.Fatalf("%v, mode %d, %v, by %q: %s, not %s", x, mode, saved, text, got, want)
			}
		}
	})
}

// keeps holds that an engine refuses bytes, and is as it was.
func keeps(t *testing.T, e *engine.Engine, b []byte, want api.Errno) {
	t.Helper()
	saved, done := e.Save(), e.Done()
	if code := e.Load(b); code != want || !bytes.Equal(e.Save(), saved) || e.Done() != done {
		t.Errorf("kind %d, at %v, by %v: %v, not %v; then at %v", e.Kind(), saved, b, code, want, e.Save())
	}
}

// P21.4: less and more bytes than Size, whatever they are.
func TestLoadLength(t *testing.T) {
	r := rand.New(rand.NewSource(24))
	each(t, func(x api.Term, mode int) {
		e := made(t, x, mode)
		give(e, way(r, 12))
		saved := e.Save()
		for n := range len(saved) {
			keeps(t, e, saved[:n], api.ErrShort)
			keeps(t, e, bytes.Repeat([]byte{255}, n), api.ErrShort)
		}
		keeps(t, e, nil, api.ErrShort)
		for _, more := range []int{1, 2, 7, 8, 9, 1000, 1 << 16} {
			keeps(t, e, append(slices.Clone(saved), make([]byte, more)...), api.ErrTail)
			keeps(t, e, bytes.Repeat([]byte{255}, len(saved)+more), api.ErrTail)
		}
	})
}

// P21.4: bytes that none of Save can be, by their form: numbers of states that there aren't, bits beyond those that there are, and such as tell of moments as they can't be in a mode.
func TestLoadBad(t *testing.T) {
	for _, c := range []struct {
		text  string
		mode  int
		taken [][]byte
		bad   [][]byte
	}{
		{"ab", engine.Always, [][]byte{{0, 0}, {1, 0}, {2, 0}}, [][]byte{{3, 0}, {4, 0}, {255, 0}, {0, 1}, {1, 1}, {0, 255}, {255, 255}}},
		{"ab", engine.Once, [][]byte{{0, 0}, {1, 0}, {2, 0}, {3, 0}}, [][]byte{{4, 0}, {5, 0}, {255, 0}, {0, 1}, {3, 128}}},
		// Behind a and behind b it goes on alike: of four states there are three, made as few as can be (layer 15).
		{"a|b", engine.Once, [][]byte{{0, 0}, {1, 0}, {2, 0}}, [][]byte{{3, 0}, {4, 0}, {0, 1}}},
		{"[b-a]", engine.Always, [][]byte{{0, 0}}, [][]byte{{1, 0}, {0, 1}}},
		{"a{200}b{90}", engine.Always, [][]byte{{255, 0}, {0, 1}, {34, 1}}, [][]byte{{35, 1}, {36, 1}, {255, 1}, {0, 2}, {34, 2}}},
		{"ab", engine.Free, [][]byte{{0}, {1}, {2}, {3}, {4}, {5}}, [][]byte{{8}, {9}, {16}, {32}, {64}, {128}, {255}}},
		{"abcdefg", engine.Free, [][]byte{{0}, {1}, {128}, {129}}, nil},
		{"abcdefgh", engine.Free, [][]byte{{0, 0}, {1, 1}}, [][]byte{{0, 2}, {1, 128}, {128, 3}}},
		{"", engine.Free, [][]byte{{0}, {1}}, [][]byte{{2}, {3}, {128}, {255}}},
		{"a.{9}", engine.Always, [][]byte{{1, 0}, {3, 0}, {1, 4}, {255, 7}}, [][]byte{{0, 0}, {2, 0}, {254, 7}, {1, 8}, {1, 255}}},
		{"[ab]*a[ab]{9}", engine.Once, [][]byte{{1, 0}, {0, 0}}, [][]byte{{3, 0}, {255, 7}, {1, 1}, {0, 64}, {0, 128}}},
		{"a{2,3}", engine.Free, [][]byte{{0, 0}, {1, 0}, {15, 0}}, [][]byte{{16, 0}, {31, 0}, {255, 0}, {0, 1}, {1, 1}, {0, 128}}},
		{"a{2,}", engine.Free, [][]byte{{0, 0}, {7, 0}}, [][]byte{{8, 0}, {0, 1}}},
		{"a*", engine.Free, [][]byte{{0, 0}, {1, 0}}, [][]byte{{2, 0}, {0, 1}, {1, 255}}},
		{"a{8}", engine.Free, [][]byte{{0, 0}, {255, 1}, {0, 1}}, [][]byte{{0, 2}, {0, 255}}},
		{"a{15}", engine.Free, [][]byte{{0, 0}, {255, 255}}, nil},
		{"a{16}", engine.Free, [][]byte{{0, 0, 0}, {255, 255, 1}}, [][]byte{{0, 0, 2}, {0, 0, 128}}},
	} {
		for _, way := range []string{"", "!ab", "!a!aa"} {
			e := made(t, sample.TermOf(c.text), c.mode)
			give(e, way)
			for _, b := range c.bad {
				keeps(t, e, b, api.ErrBad)
			}
			for _, b := range c.taken {
				if code := e.Load(b); code != api.OK || !bytes.Equal(e.Save(), b) {
					t.Errorf("%q, mode %d, %v: %v, then %v", c.text, c.mode, b, code, e.Save())
				}
			}
		}
	}
}

// P21.4: any bytes are refused, and nothing has changed, or are taken and saved again as they were; all calls end behind that.
func TestLoadAny(t *testing.T) {
	r := rand.New(rand.NewSource(25))
	taken, bad := 0, 0
	each(t, func(x api.Term, mode int) {
		e, other := made(t, x, mode), made(t, x, mode)
		for range 300 {
			give(e, way(r, 5))
			b := e.Save()
			for range 1 + r.Intn(3) {
				b[r.Intn(len(b))] ^= 1 << r.Intn(8)
			}
			if r.Intn(4) == 0 {
				r.Read(b)
			}
			saved, before := e.Save(), e.Done()
			switch code := e.Load(b); code {
			case api.OK:
				taken++
				if got := e.Save(); !bytes.Equal(got, b) {
					t.Fatalf("%v, mode %d, %v: %v", x, mode, b, got)
				}
			case api.ErrBad:
				bad++
				if got := e.Save(); !bytes.Equal(got, saved) || e.Done() != before {
					t.Fatalf("%v, mode %d, %v: %v, before %v", x, mode, b, got, saved)
				}
			default:
				t.Fatalf("%v, mode %d, %v: %v", x, mode, b, code)
			}
			// What it goes on to is saved and loaded as all else is.
			give(e, way(r, 5))
			if code := other.Load(e.Save()); code != api.OK || other.Done() != e.Done() {
				t.Fatalf("%v, mode %d, %v: %v", x, mode, e.Save(), code)
			}
		}
	})
	if taken < 5000 || bad < 5000 {
		t.Errorf("%d taken, %d not", taken, bad)
	}
}

// P21.3, P21.4: an engine misses no match that begins behind what it loaded, whatever it took, if it is always armed, or armed then.
func TestLoadArmed(t *testing.T) {
	r := rand.New(rand.NewSource(26))
	for _, text := range []string{"a.{9}", "xa.{9}y", "ab.{9}", "[ab]*a[ab]{9}y?"} {
		x := sample.TermOf(text)
		for mode, all := range map[int]string{engine.Always: "xabbbbbbbbbyb", engine.Free: "!xabbbbbbbbbyb!abbbbbbbbbb"} {
			e := made(t, x, mode)
			want := told(e, all)
			for range 2000 {
				b := e.Save()
				b[r.Intn(len(b))] ^= 1 << r.Intn(8)
				e.Load(b)
				got := told(e, all)
				for i := range got {
					if got[i] < want[i] {
						t.Fatalf("%q, mode %d, %v: %s, not %s", text, mode, b, got, want)
					}
				}
			}
		}
	}
}

// P21.5: sizes told by hand, in all modes: those of states, and of counters, just so; others at most so.
func TestSizes(t *testing.T) {
	for text, want := range map[string][3]int{
		"": {1, 2, 2}, "a": {1, 2, 2}, "abcdefg": {1, 2, 2}, "abcdefgh": {2, 2, 2}, "(abc){5}": {2, 2, 2}, "(abcd){4}": {3, 2, 2}, "(a{200}){2}": {51, 51, 51}, "a.{9}": {2, 2, 2}, "(a|b)*a(a|b){9}": {3, 3, 3},
		"a*": {2, 2, 2}, "a{0}": {2, 2, 2}, "a{8}": {2, 2, 2}, "a{15}": {2, 2, 2}, "a{16}": {3, 2, 2}, "a{2,16}": {3, 2, 2}, "a{23}": {3, 2, 2}, "a{24}": {4, 2, 2}, "a{200}": {26, 2, 2}, "a{199}": {25, 2, 2}, "a{16,}": {3, 2, 2}, "a{200,}": {26, 2, 2}, "a{0,200}": {26, 2, 2},
	} {
		for mode, most := range want {
			e := made(t, sample.TermOf(text), mode)
			if got := e.Size(); got > most || e.Kind() != engine.Positions && got != most || len(e.Save()) != got {
				t.Errorf("%q, mode %d: %d, not %d", text, mode, got, most)
			}
		}
	}
}

// P1: terms that aren't right; nothing is asked but that the calls end.
func TestWrong(t *testing.T) {
	r := rand.New(rand.NewSource(27))
	taken := 0
	for _, x := range append(sample.WrongTerms(), api.Term{}) {
		for _, mode := range modes() {
			e, code := engine.New(x, mode)
			if (e == nil) != (code != api.OK) {
				t.Fatalf("%v, mode %d: %v", x, mode, code)
			}
			if e == nil {
				continue
			}
			taken++
			give(e, way(r, 9))
			e.Load(e.Save())
			e.Load(make([]byte, e.Size()))
			e.Load(nil)
			e.Kind()
			e.Done()
			e.Reset()
		}
		engine.New(x, 7)
	}
	if taken < 100 {
		t.Errorf("only %d engines", taken)
	}
}

// scrub writes over a term's lists, their spare room too, and over its sets.
func scrub(x api.Term) {
	for _, slot := range sample.Slots(x) {
		*slot = sample.Set("b!")
	}
}

// P21.5, P2: what is handed in isn't changed and isn't kept, answers are new memory, engines are by themselves, and do the same at a second time.
func TestMemory(t *testing.T) {
	r := rand.New(rand.NewSource(28))
	for i := range 3000 {
		x, mode := sample.Roomy(grow(r)), i%3
		before := sample.Roomy(x)
		e, other := made(t, x, mode), made(t, x, mode)
		if !sample.Identical(x, before) {
			t.Fatalf("%v, before %v", x, before)
		}
		scrub(x)
		text, behind := way(r, 9), way(r, 9)
		if got, want := told(e, text), expected(before, mode, text); got != want {
			t.Fatalf("%v, mode %d, by %q: %s, not %s", before, mode, text, got, want)
		}
		room := append(e.Save(), 7, 7, 7)
		saved := room[:len(room)-3]
		kept := slices.Clone(room)
		// The other one, at the beginning till now, goes on as this one.
		code := other.Load(saved)
		if code != api.OK || !bytes.Equal(room, kept) {
			t.Fatalf("%v, mode %d: %v; %v, before %v", before, mode, code, room, kept)
		}
		sample.Overwrite([][]byte{room, e.Save(), other.Save()})
		want := expected(before, mode, text+behind)[len(text):]
		if one, two := told(e, behind), told(other, behind); one != want || two != want {
			t.Fatalf("%v, mode %d, by %q and %q: %s, %s, not %s", before, mode, text, behind, one, two, want)
		}
		if one, two := e.Save(), other.Save(); !bytes.Equal(one, two) {
			t.Fatalf("%v, mode %d: %v, %v", before, mode, one, two)
		}
		again := made(t, before, mode)
		if got := told(again, text); got != expected(before, mode, text) {
			t.Fatalf("%v, mode %d, by %q: %s", before, mode, text, got)
		}
		other.Reset()
		if got := again.Save(); !bytes.Equal(got, kept[:len(got)]) {
			t.Fatalf("%v, mode %d: %v, not %v", before, mode, got, kept)
		}
	}
}

// P1: the greatest terms, and long texts, end soon.
func TestGreat(t *testing.T) {
	const long = 1 << 16
	text := strings.Repeat("a", long)
	for _, c := range []struct {
		text       string
		first, all [3]int // in the modes: where it is done first, and how often, by so many a; armed at the beginning alone
	}{
		{"(a{200}){2}", [3]int{400, 400, 400}, [3]int{1, long - 399, 1}},
		{"(a?){200}(a?){200}", [3]int{0, 0, 0}, [3]int{401, long + 1, 401}},
		{"(a|aa){130}", [3]int{130, 130, 130}, [3]int{131, long - 129, 131}},
		{"a{200,}", [3]int{200, 200, 200}, [3]int{long - 199, long - 199, long - 199}},
		{"[ab]{200}", [3]int{200, 200, 200}, [3]int{1, long - 199, 1}},
	} {
		for _, mode := range modes() {
			e := made(t, sample.TermOf(c.text), mode)
			e.Arm()
			got := told(e, text)
			if first, all := strings.Index(got, "1"), strings.Count(got, "1"); first != c.first[mode] || all != c.all[mode] {
				t.Errorf("%q, mode %d: first at %d, %d times", c.text, mode, first, all)
			}
		}
	}
	var sets []api.Term
	for b := range 256 {
		sets = append(sets, sample.Set(string([]byte{byte(b), byte(b * 7)})))
	}
	wide := sample.Rep(sample.Alt(sets...), 0, -1)
	deep := sample.Nest(wide, 1<<15, func(x api.Term) api.Term { return sample.Rep(x, 0, 1) })
	for _, mode := range modes() {
		for _, x := range []api.Term{wide, deep, sample.Cat(sets...), sample.Cat(append([]api.Term{wide}, sets[:140]...)...)} {
			e := made(t, x, mode)
			e.Arm()
			give(e, text)
			if e.Done() != (x.Op == api.OpRep) {
				t.Errorf("mode %d: %v", mode, e.Done())
			}
		}
	}
}
