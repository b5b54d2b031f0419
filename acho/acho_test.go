package acho_test

import (
	"bytes"
	"fmt"
	"math"
	"math/rand"
	"slices"
	"strings"
	"testing"

	"riddle/acho"
	"riddle/api"
	"riddle/sample"
)

// made gives the machine of literals that are right.
func made(t *testing.T, list [][]byte) *acho.Machine {
	t.Helper()
	m, code := acho.New(list)
	if code != api.OK || m == nil {
		t.Fatalf("%s: %v", sample.ToldTexts(list), code)
	}
	return m
}

// beginnings gives all texts that literals begin with, the empty one and whole literals too.
func beginnings(list [][]byte) map[string]struct{} {
	out := map[string]struct{}{"": {}}
	for _, text := range list {
		for n := range len(text) + 1 {
			out[string(text[:n])] = struct{}{}
		}
	}
	return out
}

// ending gives the literals that a text ends with, rising.
func ending(list [][]byte, text []byte) []int {
	var out []int
	for id, literal := range list {
		if bytes.HasSuffix(text, literal) {
			out = append(out, id)
		}
	}
	return out
}

// lists gives literals that are grown, and those at the limits.
func lists() [][][]byte {
	r := rand.New(rand.NewSource(1))
	out := sample.GreatLiterals()
	for i := range 1500 {
		alphabet := []string{"a", "ab", "abc", "\x00\xff", "a\x00b\x7f\x80"}[i%5]
		out = append(out, sample.Literals(r.Intn, alphabet, 1+i%12))
	}
	return out
}

func TestExamples(t *testing.T) {
	m := made(t, sample.Texts("he", "she", "hers"))
	if got := m.Scan([]byte("ushers")); m.States() != 8 || !slices.Equal(got, []api.Hit{{Id: 0, End: 4}, {Id: 1, End: 4}, {Id: 2, End: 6}}) {
		t.Errorf("%d states, %v", m.States(), got)
	}
}

// P18.1: each error, ahead of those behind it.
func TestWrong(t *testing.T) {
	for i, x := range sample.WrongLiterals() {
		if m, code := acho.New(x.List); m != nil || code != x.Code {
			t.Errorf("%d: %v, %v, not %v", i, m, code, x.Code)
		}
	}
}

// P18.1: all numbers of literals and bytes near the limits.
func TestLimits(t *testing.T) {
	long := bytes.Repeat([]byte("abc"), 100)
	for n := range 300 {
		m, code := acho.New(slices.Repeat(sample.Texts("ab"), n))
		if taken := n <= 256; taken != (m != nil) || taken != (code == api.OK) || !taken && code != api.ErrCount {
			t.Errorf("%d literals: %v", n, code)
		}
		m, code = acho.New([][]byte{[]byte("a"), long[:n]})
		if taken := 1 <= n && n <= 200; taken != (m != nil) || taken != (code == api.OK) || !taken && code != api.ErrArg {
			t.Errorf("a literal of %d: %v", n, code)
		}
		// The others have 3900 bytes.
		m, code = acho.New(append(slices.Repeat([][]byte{long[:100]}, 39), long[:max(1, n/2)], long[:max(1, n-n/2)]))
		if total := 3900 + max(1, n/2) + max(1, n-n/2); (total <= 4000) != (m != nil) || (total <= 4000) != (code == api.OK) || total > 4000 && code != api.ErrTotal {
			t.Errorf("%d bytes: %v", total, code)
		}
	}
}

// P18.1: no literals, nothing but one state.
func TestNone(t *testing.T) {
	for _, list := range [][][]byte{nil, {}} {
		m := made(t, list)
		if m.States() != 1 || len(m.Prefix(0)) != 0 || len(m.Hits(0)) != 0 || len(m.Scan([]byte("a\x00\xff"))) != 0 {
			t.Errorf("%d states, %q, %v", m.States(), m.Prefix(0), m.Hits(0))
		}
		for b := range 256 {
			if m.Step(0, byte(b)) != 0 {
				t.Errorf("%d by %d", m.Step(0, byte(b)), b)
			}
		}
	}
}

// P18.1, P18.2: a machine told by hand, as its states' texts, each with its literals and those behind a, b and c.
func TestByHand(t *testing.T) {
	for _, c := range []struct {
		list [][]byte
		want string
	}{
		{sample.Texts("a"), "[]: a,, a[0]: a,,"},
		{sample.Texts("ab", "b", "b"), "[]: a,b, a[]: a,ab, ab[0 1 2]: a,b, b[1 2]: a,b,"},
		{sample.Texts("aba", "bac"), "[]: a,b, a[]: a,ab, ab[]: aba,b, aba[0]: a,ab,bac b[]: ba,b, ba[]: a,ab,bac bac[1]: a,b,"},
		{sample.Texts("cab", "ab", "abc"), "[]: a,,c a[]: a,ab,c ab[1]: a,,abc abc[2]: ca,,c c[]: ca,,c ca[]: a,cab,c cab[0 1]: a,,abc"},
		{sample.Texts("aa", "aaa"), "[]: a,, a[]: aa,, aa[0]: aaa,, aaa[0 1]: aaa,,"},
	} {
		m := made(t, c.list)
		var told []string
		for s := range m.States() {
			behind := [3]string{}
			for i := range behind {
				behind[i] = string(m.Prefix(m.Step(s, "abc"[i])))
			}
			told = append(told, fmt.Sprintf("%s%v: %s", m.Prefix(s), m.Hits(s), strings.Join(behind[:], ",")))
		}
		slices.Sort(told[1:])
		if got := strings.Join(told, " "); got != c.want {
			t.Errorf("%q: %s, not %s", c.list, got, c.want)
		}
	}
}

// P18.1: a state for each text that a literal begins with, and no other one; the first one is the empty text's.
func TestStates(t *testing.T) {
	for _, list := range lists() {
		m := made(t, list)
		texts := beginnings(list)
		if m.States() != len(texts) || len(m.Prefix(0)) != 0 {
			t.Fatalf("%s: %d states, not %d; the first one is %q", sample.ToldTexts(list), m.States(), len(texts), m.Prefix(0))
		}
		for s := range m.States() {
			text := string(m.Prefix(s))
			if _, ok := texts[text]; !ok {
				t.Fatalf("%s: %q, once more, or none", sample.ToldTexts(list), text)
			}
			delete(texts, text)
		}
	}
}

// P18.2: each state by each byte, and its literals, against the document's words.
func TestStep(t *testing.T) {
	for _, list := range lists() {
		m := made(t, list)
		texts := beginnings(list)
		for s := range m.States() {
			text := m.Prefix(s)
			if got, want := m.Hits(s), ending(list, text); !slices.Equal(got, want) {
				t.Fatalf("%s: %q has %v, not %v", sample.ToldTexts(list), text, got, want)
			}
			for b := range 256 {
				// Of great machines some states and bytes must do: those of literals, and few others.
				if m.States() > 2000 && (s%50 > 0 || b%16 > 2 && b != 'a') {
					continue
				}
				want := append(m.Prefix(s), byte(b))
				for {
					if _, ok := texts[string(want)]; ok {
						break
					}
					want = want[1:]
				}
				if got := m.Prefix(m.Step(s, byte(b))); !bytes.Equal(got, want) {
					t.Fatalf("%s: from %q by %d to %q, not %q", sample.ToldTexts(list), text, b, got, want)
				}
			}
		}
	}
}

// P18.1, P18.2: states that there aren't.
func TestNoState(t *testing.T) {
	for _, list := range [][][]byte{nil, sample.Texts("a"), sample.Texts("he", "she", "hers"), sample.GreatLiterals()[1]} {
		m := made(t, list)
		n := m.States()
		for _, s := range []int{math.MinInt, math.MinInt32, -65536, -n, -2, -1, n, n + 1, 65535, 65536, 1 << 32, 1<<32 + 1, math.MaxInt/2 + 1, math.MaxInt} {
			if len(m.Prefix(s)) != 0 || len(m.Hits(s)) != 0 {
				t.Errorf("%d states: %d: %q, %v", n, s, m.Prefix(s), m.Hits(s))
			}
			for b := range 256 {
				if got := m.Step(s, byte(b)); got != 0 {
					t.Errorf("%d states: from %d by %d to %d", n, s, b, got)
				}
			}
		}
	}
}

// P18.3, told by hand.
func TestScanByHand(t *testing.T) {
	for _, c := range []struct {
		list [][]byte
		text string
		want string
	}{
		{sample.Texts("a"), "", "[]"},
		{sample.Texts("a"), "bcd", "[]"},
		{sample.Texts("ab"), "aab", "[{0 3}]"},
		{sample.Texts("ab"), "aba", "[{0 2}]"},
		{sample.Texts("aa", "a", "aa"), "aaa", "[{1 1} {0 2} {1 2} {2 2} {0 3} {1 3} {2 3}]"},
		{sample.Texts("abcd", "bc", "c"), "abce", "[{1 3} {2 3}]"},
		{sample.Texts("abcd", "bcx", "cy"), "abcy", "[{2 4}]"},
		{sample.Texts("b", "ab", "b"), "abb", "[{0 2} {1 2} {2 2} {0 3} {2 3}]"},
		{sample.Texts("\x00", "\x00\x00", "\xff\x00"), "\x00\x00\xff\x00", "[{0 1} {0 2} {1 2} {0 4} {2 4}]"},
	} {
		if got := fmt.Sprint(made(t, c.list).Scan([]byte(c.text))); got != c.want {
			t.Errorf("%q in %q: %s, not %s", c.list, c.text, got, c.want)
		}
	}
}

// P18.3: grown literals in grown texts, against the document's words, and byte by byte by Step.
func TestScan(t *testing.T) {
	r := rand.New(rand.NewSource(2))
	found := 0
	for i, list := range lists() {
		m := made(t, list)
		for range 4 {
			w := sample.Text(r.Intn, "aab\x00\xffc\x7f\x80"[:2+i%7], 60)
			got := m.Scan(w)
			if want := sample.Hits(list, w); !slices.Equal(got, want) {
				t.Fatalf("%s in %q: %v, not %v", sample.ToldTexts(list), w, got, want)
			}
			var told []api.Hit
			s := 0
			for k, b := range w {
				s = m.Step(s, b)
				for _, id := range m.Hits(s) {
					told = append(told, api.Hit{Id: id, End: k + 1})
				}
			}
			if !slices.Equal(got, told) {
				t.Fatalf("%s in %q: %v, but by Step %v", sample.ToldTexts(list), w, got, told)
			}
			found += len(got)
		}
	}
	if found < 20000 {
		t.Errorf("only %d hits", found)
	}
}

// P18.3: literals one behind the other, of which parts are repeated.
func TestScanLiterals(t *testing.T) {
	r := rand.New(rand.NewSource(3))
	for _, list := range lists() {
		if len(list) == 0 {
			continue
		}
		m := made(t, list)
		var w []byte
		for range 4 {
			text := list[r.Intn(len(list))]
			w = slices.Concat(w, text[:1+r.Intn(len(text))], text[r.Intn(len(text)):])
		}
		if got, want := m.Scan(w), sample.Hits(list, w); !slices.Equal(got, want) {
			t.Fatalf("%s in %q: %v, not %v", sample.ToldTexts(list), w, got, want)
		}
	}
}

// told gives all that a machine answers.
func told(m *acho.Machine, w []byte) string {
	out := fmt.Sprint(m.States(), m.Scan(w))
	for s := -1; s <= m.States(); s++ {
		out += fmt.Sprintf("; %q %v %d %d", m.Prefix(s), m.Hits(s), m.Step(s, 'a'), m.Step(s, 'b'))
	}
	return out
}

// P18.3, and rules 5 and 6: what is handed in isn't changed, its spare room neither, and isn't kept; answers are new memory.
func TestMemory(t *testing.T) {
	plain, w := sample.Texts("ab", "b", "bab", "b", "abb"), []byte("ababbab")
	want := told(made(t, plain), w)
	list, same := sample.RoomyTexts(plain), sample.RoomyTexts(plain)
	m, other := made(t, list), made(t, list)
	if !sample.IdenticalTexts(list, same) {
		t.Errorf("the literals are %q", list)
	}
	sample.Overwrite(list)
	text := sample.RoomyTexts([][]byte{w})
	if got := told(m, text[0]); got != want || !sample.IdenticalTexts(text, sample.RoomyTexts([][]byte{w})) {
		t.Errorf("%s, not %s; of %q", got, want, text)
	}
	for s := range m.States() {
		prefix, hits := m.Prefix(s), m.Hits(s)
		next, more := m.Prefix(s), m.Hits(s)
		kept := fmt.Sprint(next, more)
		sample.Overwrite([][]byte{prefix})
		clear(hits[:cap(hits)])
		if fmt.Sprint(next, more) != kept {
			t.Errorf("%d: answers share memory", s)
		}
	}
	one, two := m.Scan(w), m.Scan(w)
	clear(one[:cap(one)])
	if got := made(t, plain).Scan(w); !slices.Equal(two, got) {
		t.Errorf("%v, not %v", two, got)
	}
	if told(m, w) != want || told(other, w) != want {
		t.Errorf("%s, %s, not %s", told(m, w), told(other, w), want)
	}
}

// P1, P2: great machines on long texts end soon, and two of them answer the same, wherever one has been before.
func TestGreat(t *testing.T) {
	for _, list := range sample.GreatLiterals() {
		m, other := made(t, list), made(t, list)
		m.Scan([]byte("aaaa"))
		w := bytes.Repeat(slices.Concat(list...), 2)
		if one, two := m.Scan(w), other.Scan(w); !slices.Equal(one, two) || len(one) < 2*len(list) {
			t.Errorf("%s: %d hits, %d hits", sample.ToldTexts(list), len(one), len(two))
		}
		for s := range m.States() {
			if !bytes.Equal(m.Prefix(s), other.Prefix(s)) || !slices.Equal(m.Hits(s), other.Hits(s)) || m.Step(s, 'a') != other.Step(s, 'a') {
				t.Fatalf("%s: the state %d", sample.ToldTexts(list), s)
			}
		}
	}
	few := made(t, sample.Texts("ab", "ba", "bb"))
	if got := few.Scan(bytes.Repeat([]byte("abb"), 1000000)); len(got) != 3000000-1 {
		t.Errorf("%d hits", len(got))
	}
}
