package teddy_test

import (
	"bytes"
	"fmt"
	"math/rand"
	"slices"
	"testing"

	"riddle/acho"
	"riddle/api"
	"riddle/sample"
	"riddle/teddy"
)

// made gives the filter of literals that are right.
func made(t *testing.T, list [][]byte) *teddy.Filter {
	t.Helper()
	f, code := teddy.New(list)
	if code != api.OK || f == nil {
		t.Fatalf("%s: %v", sample.ToldTexts(list), code)
	}
	return f
}

// all gives a text of each byte, in an order in which halves of bytes come in many ways.
func all() []byte {
	var out []byte
	for b := range 256 {
		out = append(out, byte(91*b+7))
	}
	return out
}

// lists gives literals that are grown, and those at the limits; the bytes of some have a half in common.
func lists() [][][]byte {
	r := rand.New(rand.NewSource(1))
	out := sample.GreatLiterals()
	for i := range 2000 {
		alphabet := []string{"a", "ab", "abqr", "\x00\xff", "a\x00b\x7f\x80\xe1", "\x10\x20\x01\x02\x12\x81\x90"}[i%6]
		out = append(out, sample.Literals(r.Intn, alphabet, 1+i%12))
	}
	return out
}

// texts gives texts in which literals may be, of all lengths up to some words of eight places.
func texts(r *rand.Rand, list [][]byte) [][]byte {
	var out [][]byte
	for i := range 4 {
		alphabet := []string{"ab", "aabbqr", "\x00\x00\xffab\x7f\x80\xe1", "\x00\x10\x20\x01\x02\x12\x11\x81\x90\x91"}[i]
		out = append(out, sample.Text(r.Intn, alphabet, 40))
		if len(list) > 0 {
			one, two := list[r.Intn(len(list))], list[r.Intn(len(list))]
			out = append(out, slices.Concat(out[2*i][:r.Intn(len(out[2*i])+1)], one, one[r.Intn(len(one)):], two[:r.Intn(len(two)+1)]))
		} else {
			out = append(out, nil)
		}
	}
	return out
}

func TestExamples(t *testing.T) {
	s := made(t, sample.Texts("he", "she")).Stream()
	var got []string
	for _, w := range []string{"us", "he", "r"} {
		got = append(got, fmt.Sprint(s.Feed([]byte(w))))
	}
	if !slices.Equal(got, []string{"[]", "[{0 4} {1 4}]", "[]"}) {
		t.Errorf("%v", got)
	}
}

// P19.1: the errors of layer 18, and nothing else is refused.
func TestNew(t *testing.T) {
	for i, x := range sample.WrongLiterals() {
		f, code := teddy.New(x.List)
		if _, want := acho.New(x.List); f != nil || code != want || code != x.Code {
			t.Errorf("%d: %v, %v, not %v", i, f, code, x.Code)
		}
	}
	for _, list := range lists() {
		made(t, list)
	}
}

// hold holds the places at which literals may begin against the document's words.
func hold(t *testing.T, f *teddy.Filter, list [][]byte, w []byte) {
	t.Helper()
	got := f.Maybe(w)
	if !slices.IsSorted(got) || len(slices.Compact(slices.Clone(got))) < len(got) {
		t.Fatalf("%s in %q: %v", sample.ToldTexts(list), w, got)
	}
	for _, at := range got {
		if at < 0 || at >= len(w) || !slices.ContainsFunc(list, func(text []byte) bool { return text[0] == w[at] }) {
			t.Fatalf("%s in %q: %d of %v", sample.ToldTexts(list), w, at, got)
		}
	}
	for at := range w {
		begins := slices.ContainsFunc(list, func(text []byte) bool { return bytes.HasPrefix(w[at:], text) })
		if begins && !slices.Contains(got, at) {
			t.Fatalf("%s in %q: not %d, but %v", sample.ToldTexts(list), w, at, got)
		}
	}
}

// P19.2: places told by hand; where the document leaves open whether a place is told, neither is wrong.
func TestMaybeByHand(t *testing.T) {
	for _, c := range []struct {
		list        [][]byte
		w           string
		must, might []int
	}{
		{nil, "abc", nil, nil},
		{sample.Texts("a"), "", nil, nil},
		{sample.Texts("a"), "a", []int{0}, nil},
		{sample.Texts("a"), "bqcAQ\xe1\x01\x00", nil, nil},
		{sample.Texts("a", "r"), "bqar", []int{2, 3}, nil},
		{sample.Texts("aa"), "aabaaa", []int{0, 3, 4}, []int{1, 5}},
		{sample.Texts("abcd", "ab"), "abcdxabx", []int{0, 5}, nil},
		{sample.Texts("abcd"), "xabcabcdabc", []int{4}, []int{1, 8}},
		{sample.Texts("needle"), "a needle, nee nxe", []int{2}, []int{10, 14}},
		{sample.Texts("\x00"), "\x00a\x00", []int{0, 2}, nil},
		{sample.Texts("\x00\x00"), "a\x00\x00", []int{1}, []int{2}},
		{sample.Texts("\xff", "\x80\x7f"), "\xff\x80\x7f\x80\xff\x8f\xf0\x7f", []int{0, 1, 4}, []int{3}},
		{sample.Texts("ab"), "xxxxxxxabxxxxxxab", []int{7, 15}, nil},
	} {
		got := made(t, c.list).Maybe([]byte(c.w))
		for _, at := range c.must {
			if !slices.Contains(got, at) {
				t.Errorf("%q in %q: %v, without %d", c.list, c.w, got, at)
			}
		}
		for _, at := range got {
			if !slices.Contains(c.must, at) && !slices.Contains(c.might, at) {
				t.Errorf("%q in %q: %v, with %d", c.list, c.w, got, at)
			}
		}
	}
}

// P19.2: grown literals in grown texts.
func TestMaybe(t *testing.T) {
	r := rand.New(rand.NewSource(2))
	for _, list := range lists() {
		f := made(t, list)
		for _, w := range texts(r, list) {
			hold(t, f, list, w)
		}
	}
}

// P19.2: of literals of one byte just its places are told, whatever the halves of the bytes.
func TestMaybeExact(t *testing.T) {
	r := rand.New(rand.NewSource(3))
	w := all()
	for i := range 500 {
		var list [][]byte
		var want []int
		seldom := 1 + i%40
		for at, b := range w {
			if r.Intn(seldom) == 0 || at == i {
				list, want = append(list, []byte{b}), append(want, at)
			}
		}
		r.Shuffle(len(list), func(i, k int) { list[i], list[k] = list[k], list[i] })
		if got := made(t, list).Maybe(w); !slices.Equal(got, want) {
			t.Fatalf("%s: %v, not %v", sample.ToldTexts(list), got, want)
		}
	}
}

// P19.2: a literal of each length at each place of texts of each length, beginning and ending between words of eight places.
func TestEachPlace(t *testing.T) {
	for _, literal := range []string{"a", "ab", "abc", "abcd", "abcdefgh", "abcdefghi", "\x00", "\x00\x00", "\x00\x00\x00\x00\x00"} {
		list := sample.Texts(literal)
		f := made(t, list)
		for length := range 27 {
			for at := range length + 1 {
				w := bytes.Repeat([]byte("x"), length)
				copy(w[at:], literal)
				hold(t, f, list, w)
				if got, want := f.Scan(w), sample.Hits(list, w); !slices.Equal(got, want) {
					t.Errorf("%q in %q: %v, not %v", literal, w, got, want)
				}
			}
		}
	}
}

// P19.2: Scan gives what layer 18's does, and what the document's words say.
func TestScan(t *testing.T) {
	r := rand.New(rand.NewSource(4))
	found := 0
	for _, list := range lists() {
		f := made(t, list)
		m, _ := acho.New(list)
		for _, w := range texts(r, list) {
			got := f.Scan(w)
			if want := sample.Hits(list, w); !slices.Equal(got, want) || !slices.Equal(got, m.Scan(w)) {
				t.Fatalf("%s in %q: %v, not %v; layer 18: %v", sample.ToldTexts(list), w, got, want, m.Scan(w))
			}
			found += len(got)
		}
	}
	if found < 50000 {
		t.Errorf("only %d hits", found)
	}
}

// reach gives the length of the longest literal less 1.
func reach(list [][]byte) int {
	n := 0
	for _, text := range list {
		n = max(n, len(text)-1)
	}
	return n
}

// P19.3, told by hand: what each piece gives, and how many bytes are kept behind it.
func TestFeedByHand(t *testing.T) {
	for _, c := range []struct {
		list   [][]byte
		pieces []string
		want   string
	}{
		{nil, []string{"", "abc", "d"}, "[] 0, [] 0, [] 0"},
		{sample.Texts("a"), []string{"a", "", "ba", "aa"}, "[{0 1}] 0, [] 0, [{0 3}] 0, [{0 4} {0 5}] 0"},
		{sample.Texts("ab", "b"), []string{"a", "b", "b"}, "[] 1, [{0 2} {1 2}] 1, [{1 3}] 1"},
		{sample.Texts("aaa"), []string{"", "a", "", "a", "a", "a"}, "[] 0, [] 1, [] 1, [] 2, [{0 3}] 2, [{0 4}] 2"},
		{sample.Texts("abcd", "cd"), []string{"ab", "cdab", "cd"}, "[] 2, [{0 4} {1 4}] 3, [{0 8} {1 8}] 3"},
		{sample.Texts("cd", "abcd"), []string{"abcdabcdabc", "d", "d"}, "[{0 4} {1 4} {0 8} {1 8}] 3, [{0 12} {1 12}] 3, [] 3"},
		{sample.Texts("\x00\x00"), []string{"x", "\x00", "\x00", "\x00"}, "[] 1, [] 1, [{0 3}] 1, [{0 4}] 1"},
	} {
		s := made(t, c.list).Stream()
		told := ""
		for _, w := range c.pieces {
			told += fmt.Sprint(", ", s.Feed([]byte(w)), s.Kept())
		}
		if told != ", "+c.want {
			t.Errorf("%q in %q%s", c.list, c.pieces, told)
		}
	}
}

// P19.3: grown literals in grown texts, however they are cut, against the document's words.
func TestFeed(t *testing.T) {
	r := rand.New(rand.NewSource(5))
	found := 0
	for i, list := range lists() {
		f := made(t, list)
		for _, w := range texts(r, list) {
			want := sample.Hits(list, w)
			s := f.Stream()
			if s.Kept() != 0 {
				t.Fatalf("%s: %d kept of nothing", sample.ToldTexts(list), s.Kept())
			}
			longest := 1 + i%11
			for fed := 0; fed < len(w); {
				n := min(r.Intn(longest+1), len(w)-fed)
				got := s.Feed(w[fed : fed+n])
				fed += n
				k := 0
				for k < len(want) && want[k].End <= fed {
					k++
				}
				if !slices.Equal(got, want[:k]) || s.Kept() != min(fed, reach(list)) {
					t.Fatalf("%s in %q, from %d to %d: %v, not %v; %d kept", sample.ToldTexts(list), w, fed-n, fed, got, want[:k], s.Kept())
				}
				want = want[k:]
				found += len(got)
			}
		}
	}
	if found < 50000 {
		t.Errorf("only %d hits", found)
	}
}

// P19.3: each pair of cuts.
func TestCuts(t *testing.T) {
	list := sample.Texts("abcabc", "cab", "b", "abc", "cc", "abcabcabcab", "b")
	f := made(t, list)
	w := []byte("abcabcabcabccab\x00abcabc")
	want := sample.Hits(list, w)
	for one := range len(w) + 1 {
		for two := one; two <= len(w); two++ {
			s := f.Stream()
			got := slices.Concat(s.Feed(w[:one]), s.Feed(w[one:two]), s.Feed(nil), s.Feed(w[two:]))
			if !slices.Equal(got, want) || s.Kept() != 10 {
				t.Errorf("%d, %d: %v, not %v; %d kept", one, two, got, want, s.Kept())
			}
		}
	}
}

// P19.4, and rules 5 and 6: what is handed in isn't changed, its spare room neither, and isn't kept; answers are new memory.
func TestMemory(t *testing.T) {
	plain := sample.Texts("ab", "b", "bab", "b", "abb")
	list := sample.RoomyTexts(plain)
	f := made(t, list)
	if !sample.IdenticalTexts(list, sample.RoomyTexts(plain)) {
		t.Errorf("the literals are %q", list)
	}
	sample.Overwrite(list)
	w := []byte("ababbabxbabb")
	text, same := sample.RoomyTexts([][]byte{w}), sample.RoomyTexts([][]byte{w})
	places, hits := f.Maybe(text[0]), f.Scan(text[0])
	wantPlaces, wantHits := made(t, plain).Maybe(w), sample.Hits(plain, w)
	for range 2 {
		more, again := f.Maybe(text[0]), f.Scan(text[0])
		if !slices.Equal(places, wantPlaces) || !slices.Equal(hits, wantHits) || !sample.IdenticalTexts(text, same) {
			t.Errorf("%v, %v, not %v, %v; of %q", places, hits, wantPlaces, wantHits, text)
		}
		clear(places[:cap(places)])
		clear(hits[:cap(hits)])
		places, hits = more, again
	}
}

// P19.4, and rules 5 and 6: pieces may be written over, and streams are by themselves.
func TestStreamMemory(t *testing.T) {
	plain := sample.Texts("abab", "ba")
	list := sample.RoomyTexts(plain)
	f := made(t, list)
	one, two, three := f.Stream(), f.Stream(), f.Stream()
	sample.Overwrite(list)
	w := []byte("abababbaabab")
	var got, other []api.Hit
	for i := range w {
		piece, same := sample.RoomyTexts([][]byte{w[i : i+1]}), sample.RoomyTexts([][]byte{w[i : i+1]})
		hits := one.Feed(piece[0])
		if !sample.IdenticalTexts(piece, same) {
			t.Errorf("the piece is %q", piece)
		}
		got = append(got, hits...)
		clear(hits[:cap(hits)])
		sample.Overwrite(piece)
		other = append(other, two.Feed([]byte("xba"))...)
		// The filter's own calls, of the stream too, leave alone what the stream was fed.
		f.Scan([]byte("ababab"))
		one.Scan([]byte("ababab"))
		one.Stream().Feed([]byte("ababab"))
	}
	if want := sample.Hits(plain, w); !slices.Equal(got, want) {
		t.Errorf("%v, not %v", got, want)
	}
	if want := sample.Hits(plain, bytes.Repeat([]byte("xba"), len(w))); !slices.Equal(other, want) {
		t.Errorf("%v, not %v", other, want)
	}
	if hits := three.Feed([]byte("ab")); len(hits) > 0 || three.Kept() != 2 || one.Kept() != 3 {
		t.Errorf("%v, %d and %d kept", hits, three.Kept(), one.Kept())
	}
}

// P1, P2: great filters on long texts, and in many pieces, end soon, and two of them answer the same.
func TestGreat(t *testing.T) {
	for _, list := range sample.GreatLiterals() {
		f, other := made(t, list), made(t, list)
		m, _ := acho.New(list)
		w := bytes.Repeat(slices.Concat(list...), 3)
		f.Scan([]byte("aaaa"))
		want := m.Scan(w)
		if one, two := f.Scan(w), other.Scan(w); !slices.Equal(one, want) || !slices.Equal(two, want) || !slices.Equal(f.Maybe(w), other.Maybe(w)) {
			t.Errorf("%s: %d hits, %d hits, not %d", sample.ToldTexts(list), len(one), len(two), len(want))
		}
		s := f.Stream()
		var got []api.Hit
		for i := range w {
			got = append(got, s.Feed(w[i:i+1])...)
		}
		if !slices.Equal(got, want) || s.Kept() != min(len(w), reach(list)) {
			t.Errorf("%s: %d hits byte by byte, not %d", sample.ToldTexts(list), len(got), len(want))
		}
	}
	few := made(t, sample.Texts("ab", "ba", "bb"))
	if got := few.Scan(bytes.Repeat([]byte("abb"), 100000)); len(got) != 300000-1 {
		t.Errorf("%d hits", len(got))
	}
}
