package sample_test

import (
	"bytes"
	"fmt"
	"math/rand"
	"slices"
	"testing"

	"riddle/api"
	"riddle/sample"
)

// wrong tells by the document's words (P18.1) what is wrong with literals.
func wrong(list [][]byte) api.Errno {
	total, out := 0, api.OK
	for _, text := range list {
		total += len(text)
		if len(text) < 1 || len(text) > 200 {
			out = api.ErrArg
		}
	}
	switch {
	case len(list) > 256:
		return api.ErrCount
	case out == api.OK && total > 4000:
		return api.ErrTotal
	}
	return out
}

// What the tests of other packages trust in: wrong literals are wrong just so, and the great ones are right, up to each limit.
func TestWrongLiterals(t *testing.T) {
	codes := map[api.Errno]int{}
	for i, x := range sample.WrongLiterals() {
		if code := wrong(x.List); code != x.Code || code == api.OK {
			t.Errorf("%d: %v, not %v", i, code, x.Code)
		}
		codes[x.Code]++
	}
	if len(codes) != 3 {
		t.Errorf("%v", codes)
	}
	count, total, long, prefixes := 0, 0, 0, 0
	for i, list := range sample.GreatLiterals() {
		if code := wrong(list); code != api.OK {
			t.Errorf("%d: %v", i, code)
		}
		met := map[string]int{}
		for _, text := range list {
			long = max(long, len(text))
			for n := range len(text) {
				met[string(text[:n+1])]++
			}
		}
		count, total, prefixes = max(count, len(list)), max(total, len(slices.Concat(list...))), max(prefixes, len(met))
	}
	if count != 256 || total != 4000 || long != 200 || prefixes != 4000 {
		t.Errorf("%d literals, %d bytes, one of %d, %d beginnings", count, total, long, prefixes)
	}
}

// What the tests of other packages trust in: Literals gives right ones, of which some are alike, and some are in others.
func TestLiterals(t *testing.T) {
	r := rand.New(rand.NewSource(1))
	alike, within, all := 0, 0, 0
	for range 1000 {
		list := sample.Literals(r.Intn, "ab", 6)
		if len(list) > 6 || wrong(list) != api.OK || len(bytes.Trim(slices.Concat(list...), "ab")) > 0 {
			t.Fatal(sample.ToldTexts(list))
		}
		for i, text := range list {
			all++
			for _, other := range list[:i] {
				if bytes.Equal(text, other) {
					alike++
				} else if bytes.Contains(text, other) {
					within++
				}
			}
		}
	}
	if alike < all/50 || within < all/3 {
		t.Errorf("of %d literals %d are alike, %d are in another one", all, alike, within)
	}
}

// What the tests of other packages trust in: each text is told, but not all of very long ones.
func TestToldTexts(t *testing.T) {
	if got := sample.ToldTexts(sample.Texts("a\x00", "", "b")); got != ` "a\x00" "" "b"` {
		t.Error(got)
	}
	if got := sample.ToldTexts([][]byte{make([]byte, 5000)}); len(got) > 400 {
		t.Error(len(got))
	}
}

// What the tests of other packages trust in: Hits told by hand.
func TestHits(t *testing.T) {
	list := sample.Texts("he", "she", "hers", "e", "e")
	if got := fmt.Sprint(sample.Hits(list, []byte("ushers"))); got != "[{0 4} {1 4} {3 4} {4 4} {2 6}]" {
		t.Error(got)
	}
	if got := sample.Hits(list, nil); got != nil {
		t.Error(got)
	}
}

// What the tests of other packages trust in: a change in the spare room is seen, and Overwrite changes all.
func TestRoomyTexts(t *testing.T) {
	list := sample.Texts("he", "")
	for i, change := range []func(x [][]byte){
		func(x [][]byte) { x[0][1] = 'f' },
		func(x [][]byte) { x[0][:3][2] = 0 },
		func(x [][]byte) { x[1][:1][0] = 0 },
		func(x [][]byte) { x[:3][2] = nil },
		func(x [][]byte) { x[:4][3] = []byte{0} },
		func(x [][]byte) { x[1] = append(x[1], 1) },
	} {
		x, y := sample.RoomyTexts(list), sample.RoomyTexts(list)
		if !sample.IdenticalTexts(x, y) || string(y[0]) != "he" || len(y) != 2 || len(y[1]) != 0 {
			t.Fatalf("%q isn't %q", x, y)
		}
		change(x)
		if sample.IdenticalTexts(x, y) {
			t.Errorf("%d: a change isn't seen", i)
		}
	}
	x := sample.RoomyTexts(list)
	one, two := x[0][:3], x[1][:3]
	sample.Overwrite(x)
	if one[0] != ^byte('h') || one[2] != ^byte(1) || two[2] != ^byte(3) || x[0] != nil || x[:3][2] != nil {
		t.Errorf("%v, %v, %v", one, two, x)
	}
}
