package sample_test

import (
	"testing"

	"riddle/api"
	"riddle/sample"
)

// What the tests of other packages trust in: Match, told by hand.
func TestMatch(t *testing.T) {
	a, begin, end := sample.Set("a"), sample.Op(api.OpBegin), sample.Op(api.OpEnd)
	for i, c := range []struct {
		x    api.Term
		w    string
		want sample.Ends
	}{
		{sample.Op(api.OpEmpty), "ab", sample.Ends{0b1, 0b10, 0b100}},
		{sample.Op(api.OpNone), "ab", sample.Ends{}},
		{a, "aba", sample.Ends{0b10, 0, 0b1000}},
		{sample.Op(api.OpDot), "a\n\xff", sample.Ends{0b10, 0, 0b1000}},
		{begin, "ab", sample.Ends{0b1}},
		{end, "ab", sample.Ends{0, 0, 0b100}},
		{sample.Cat(a, a), "aaa", sample.Ends{0b100, 0b1000}},
		{sample.Cat(end, begin), "", sample.Ends{0b1}},
		{sample.Alt(a, sample.Op(api.OpEmpty)), "ab", sample.Ends{0b11, 0b10, 0b100}},
		{sample.Rep(a, 0, -1), "aab", sample.Ends{0b111, 0b110, 0b100, 0b1000}},
		{sample.Rep(a, 2, 3), "aaaaa", sample.Ends{0b1100, 0b11000, 0b110000, 0b100000}},
		{sample.Rep(sample.Rep(a, 0, 1), 2, 2), "aaa", sample.Ends{0b111, 0b1110, 0b1100, 0b1000}},
		{sample.Rep(a, 0, 0), "a", sample.Ends{0b1, 0b10}},
		{sample.Rep(a, 2, -1), "aaaaaaa", sample.Ends{0b11111100, 0b11111000, 0b11110000, 0b11100000, 0b11000000, 0b10000000}},
	} {
		if got := sample.Match(c.x, c.w); got != c.want {
			t.Errorf("%d: %b, not %b", i, got, c.want)
		}
	}
}
