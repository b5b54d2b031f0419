package class_test

import (
	"bytes"
	"math"
	"slices"
	"testing"

	"riddle/api"
	"riddle/class"
)

// samples are classes with bytes at the words' bounds, and mixed ones.
func samples() []api.Class {
	out := []api.Class{
		{}, {math.MaxUint64, math.MaxUint64, math.MaxUint64, math.MaxUint64},
		{1}, {1 << 63}, {0, 1}, {0, 0, 0, 1 << 63}, {1 << 63, 1, 0, 1 << 63}, {0, math.MaxUint64},
		{0x5555555555555555, 0xaaaaaaaaaaaaaaaa, 0x5555555555555555, 0xaaaaaaaaaaaaaaaa},
		class.Of([]byte("@AZ[`az{")), class.Of([]byte("aZ_")),
	}
	seed := uint64(3)
	for range 8 {
		var c api.Class
		for i := range c {
			seed = seed*6364136223846793005 + 1442695040888963407
			c[i] = seed ^ seed>>29
		}
		out = append(out, c)
	}
	return out
}

// in tells by the document's words whether a class has a byte.
func in(c api.Class, b int) bool {
	return c[b/64]/(1<<(b%64))%2 == 1
}

// want checks a class byte by byte.
func want(t *testing.T, what string, got api.Class, has func(b int) bool) {
	t.Helper()
	for b := range 256 {
		if in(got, b) != has(b) {
			t.Errorf("%s: the byte %d: %v", what, b, in(got, b))
		}
	}
}

func TestExample(t *testing.T) {
	runs := class.Runs(class.Of([]byte("bca0")))
	if !slices.Equal(runs, [][2]byte{{'0', '0'}, {'a', 'c'}}) {
		t.Errorf("Runs: %v", runs)
	}
	if s := string(class.Bytes(class.Fold(class.Of([]byte("aZ_"))))); s != "AZ_az" {
		t.Errorf("Fold: %s", s)
	}
}

// P2.1
func TestOfRangeHas(t *testing.T) {
	for _, list := range [][]byte{nil, {}, {0}, {255}, {63, 64, 63}, {127, 128, 191, 192}, []byte("bca0bb")} {
		want(t, "Of", class.Of(list), func(b int) bool { return bytes.IndexByte(list, byte(b)) >= 0 })
	}
	edges := []int{0, 1, 62, 63, 64, 65, 'A', 'z', 127, 128, 191, 192, 254, 255}
	for _, x := range edges {
		for _, y := range edges {
			want(t, "Range", class.Range(byte(x), byte(y)), func(b int) bool { return x <= b && b <= y })
		}
	}
	for _, c := range samples() {
		for b := range 256 {
			if class.Has(c, byte(b)) != in(c, b) {
				t.Errorf("Has %d: %v", b, !in(c, b))
			}
		}
	}
}

// P2.1
func TestOrAndNot(t *testing.T) {
	for _, x := range samples() {
		want(t, "Not", class.Not(x), func(b int) bool { return !in(x, b) })
		for _, y := range samples() {
			want(t, "Or", class.Or(x, y), func(b int) bool { return in(x, b) || in(y, b) })
			want(t, "And", class.And(x, y), func(b int) bool { return in(x, b) && in(y, b) })
		}
	}
}

// P2.2
func TestLenBytes(t *testing.T) {
	for _, c := range samples() {
		var list []byte
		for b := range 256 {
			if in(c, b) {
				list = append(list, byte(b))
			}
		}
		if class.Len(c) != len(list) {
			t.Errorf("Len: %d, not %d", class.Len(c), len(list))
		}
		if got := class.Bytes(c); !bytes.Equal(got, list) {
			t.Errorf("Bytes: %v, not %v", got, list)
		}
	}
}

// P2.2: each run is within the class, and can't be longer; together they are the class.
func TestRuns(t *testing.T) {
	for _, c := range samples() {
		var all api.Class
		ahead := -2
		for _, r := range class.Runs(c) {
			if int(r[0]) < ahead+2 || r[1] < r[0] {
				t.Errorf("Runs: %v behind a run to %d", r, ahead)
			}
			ahead = int(r[1])
			all = class.Or(all, class.Range(r[0], r[1]))
		}
		if all != c {
			t.Errorf("Runs: %v aren't those of %v", class.Runs(c), c)
		}
	}
	for _, x := range []struct {
		c    api.Class
		runs [][2]byte
	}{
		{api.Class{}, nil},
		{class.Range(0, 255), [][2]byte{{0, 255}}},
		{class.Of([]byte{0, 255}), [][2]byte{{0, 0}, {255, 255}}},
		{class.Of([]byte{63, 64, 127, 129, 254, 255}), [][2]byte{{63, 64}, {127, 127}, {129, 129}, {254, 255}}},
	} {
		if runs := class.Runs(x.c); !slices.Equal(runs, x.runs) {
			t.Errorf("Runs: %v, not %v", runs, x.runs)
		}
	}
}

// P2.3
func TestFold(t *testing.T) {
	other := func(b int) int {
		switch {
		case 'A' <= b && b <= 'Z':
			return b + 32
		case 'a' <= b && b <= 'z':
			return b - 32
		}
		return b
	}
	for _, c := range samples() {
		want(t, "Fold", class.Fold(c), func(b int) bool { return in(c, b) || in(c, other(b)) })
	}
	for x := range 256 {
		c := class.Of([]byte{byte(x)})
		want(t, "Fold of one", class.Fold(c), func(b int) bool { return b == x || b == other(x) })
	}
}

// P2.3, and rule 5: the spare room counts, too.
func TestNewMemory(t *testing.T) {
	list := []byte("bca0")
	c := class.Of(list)
	if string(list) != "bca0" {
		t.Errorf("Of changed its list: %s", list)
	}
	clear(list)
	one, two := class.Bytes(c), class.Bytes(c)
	clear(one[:cap(one)])
	if string(two) != "0abc" {
		t.Errorf("Bytes' answers share memory: %s", two)
	}
	runs, more := class.Runs(c), class.Runs(c)
	clear(runs[:cap(runs)])
	if !slices.Equal(more, [][2]byte{{'0', '0'}, {'a', 'c'}}) {
		t.Errorf("Runs' answers share memory: %v", more)
	}
}

// P2: the same calls, the same answers.
func TestSameAnswers(t *testing.T) {
	for _, c := range samples() {
		if class.Fold(c) != class.Fold(c) || class.Not(c) != class.Not(c) || class.Len(c) != class.Len(c) {
			t.Errorf("another answer at the second time: %v", c)
		}
		if !bytes.Equal(class.Bytes(c), class.Bytes(c)) || !slices.Equal(class.Runs(c), class.Runs(c)) {
			t.Errorf("another list at the second time: %v", c)
		}
	}
}
