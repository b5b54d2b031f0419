package lanes_test

import (
	"bytes"
	"math"
	"testing"

	"riddle/lanes"
)

// samples are words with lanes at the bounds, and mixed ones.
func samples() []uint64 {
	out := []uint64{
		0, 1, math.MaxUint64, 0x8080808080808080, 0x7f7f7f7f7f7f7f7f, 0xff00ff00ff00ff00, 0x00ff00ff00ff00ff,
		0x0102030405060708, 0x80ff7f0000000080, 0x00000000ffffffff, 1 << 63, 255, 256,
	}
	seed := uint64(5)
	for range 12 {
		seed = seed*6364136223846793005 + 1442695040888963407
		out = append(out, seed^seed>>29)
	}
	return out
}

// lane gives by the document's words what stands in a lane.
func lane(v uint64, k int) int {
	for range k {
		v /= 256
	}
	return int(v % 256)
}

// want checks a word lane by lane.
func want(t *testing.T, what string, got uint64, at func(k int) int) {
	t.Helper()
	for k := range 8 {
		if lane(got, k) != at(k) {
			t.Errorf("%s: %d in the lane %d of %x, not %d", what, lane(got, k), k, got, at(k))
		}
	}
}

func TestExample(t *testing.T) {
	if v := lanes.Load([]byte("abc"), 1); v != 98+99*256 {
		t.Errorf("Load: %x", v)
	}
	if v := lanes.AddCap(lanes.Spread(200), lanes.Spread(100)); v != math.MaxUint64 {
		t.Errorf("AddCap: %x", v)
	}
	if v := lanes.Top(lanes.Equal(lanes.Spread(1), 1)); v != 1 {
		t.Errorf("Top: %b", v)
	}
}

// P3.1
func TestSpreadStore(t *testing.T) {
	for b := range 256 {
		want(t, "Spread", lanes.Spread(byte(b)), func(int) int { return b })
	}
	for _, v := range samples() {
		out := lanes.Store(v)
		want(t, "Store", v, func(k int) int { return int(out[k]) })
	}
}

// P3.1
func TestLoad(t *testing.T) {
	whole := []byte("\xff0123456789abcdefghij\x80\xfe")
	far := []int{math.MinInt, math.MinInt + 1, math.MinInt + 7, math.MinInt + 8, -1 << 32, 1 << 32, math.MaxInt - 8, math.MaxInt - 7, math.MaxInt - 1, math.MaxInt}
	for n := range len(whole) + 1 {
		// The room behind the text's end is no part of it.
		text := whole[:n]
		for i := -10; i < n+10; i++ {
			want(t, "Load", lanes.Load(text, i), func(k int) int {
				if i+k < 0 || i+k >= n {
					return 0
				}
				return int(whole[i+k])
			})
		}
		for _, i := range far {
			if v := lanes.Load(text, i); v != 0 {
				t.Errorf("Load at %d: %x", i, v)
			}
		}
	}
	if lanes.Load(nil, 0) != 0 {
		t.Error("Load of nothing")
	}
	if !bytes.Equal(whole, []byte("\xff0123456789abcdefghij\x80\xfe")) {
		t.Errorf("Load changed its text: %q", whole)
	}
}

func equal(x, y int) int {
	if x == y {
		return 255
	}
	return 0
}

// checkPair checks all calls on two words.
func checkPair(t *testing.T, a, b uint64) {
	t.Helper()
	by := func(f func(x, y int) int) func(k int) int {
		return func(k int) int { return f(lane(a, k), lane(b, k)) }
	}
	want(t, "Add", lanes.Add(a, b), by(func(x, y int) int { return (x + y) % 256 }))
	want(t, "AddCap", lanes.AddCap(a, b), by(func(x, y int) int { return min(x+y, 255) }))
	want(t, "Equal", lanes.Equal(a, b), by(equal))
	want(t, "Least", lanes.Least(a, b), by(func(x, y int) int { return min(x, y) }))
}

// P3.2: all pairs of bytes stand in all lanes, each beside others.
func TestPairs(t *testing.T) {
	for x := range 256 {
		for y := range 256 {
			var a, b uint64
			for k := range 8 {
				a = a*256 + uint64((x+k*37)%256)
				b = b*256 + uint64((y+k*91)%256)
			}
			checkPair(t, a, b)
		}
	}
	for _, a := range samples() {
		for _, b := range samples() {
			checkPair(t, a, b)
		}
	}
}

// P3.2
func TestPick(t *testing.T) {
	table := [16]byte{9, 8, 7, 255, 0, 128, 127, 1, 2, 3, 4, 5, 6, 77, 88, 99}
	words := samples()
	for b := range 256 {
		words = append(words, lanes.Spread(byte(b)))
	}
	for _, v := range words {
		want(t, "Pick", lanes.Pick(table, v), func(k int) int { return int(table[lane(v, k)%16]) })
	}
}

// P3.3
func TestTop(t *testing.T) {
	for _, v := range samples() {
		top := int(lanes.Top(v))
		for k := range 8 {
			if top>>k%2 != lane(v, k)/128 {
				t.Errorf("Top of %x: %b", v, top)
			}
		}
	}
	for k := range 8 {
		if top := lanes.Top(1 << (8*k + 7)); top != 1<<k {
			t.Errorf("Top of the lane %d alone: %b", k, top)
		}
	}
}

// P3.3
func TestUp(t *testing.T) {
	for _, v := range samples() {
		for n := range 8 {
			want(t, "Up", lanes.Up(v, n), func(k int) int {
				if k < n {
					return 0
				}
				return lane(v, k-n)
			})
		}
		for _, n := range []int{math.MinInt, math.MinInt / 8, -1 << 32, -64, -8, -1} {
			if up := lanes.Up(v, n); up != v {
				t.Errorf("Up %d of %x: %x", n, v, up)
			}
		}
		for _, n := range []int{8, 9, 64, 256, 1 << 32, 1 << 61, 1<<61 + 1, math.MaxInt} {
			if up := lanes.Up(v, n); up != 0 {
				t.Errorf("Up %d of %x: %x", n, v, up)
			}
		}
	}
}

// P2: the same calls, the same answers; what was asked between doesn't matter.
func TestSameAnswers(t *testing.T) {
	ask := func(a, b uint64) [9]uint64 {
		text := lanes.Store(a)
		return [9]uint64{
			lanes.Spread(byte(a)), lanes.Load(text[:], 1), lanes.Add(a, b), lanes.AddCap(a, b), lanes.Equal(a, b),
			lanes.Least(a, b), uint64(lanes.Top(a)), lanes.Pick([16]byte{1, 2, 3}, a), lanes.Up(a, 2),
		}
	}
	for _, a := range samples() {
		one := ask(a, 77)
		for _, b := range samples() {
			ask(b, a)
		}
		if ask(a, 77) != one {
			t.Errorf("%x: another answer at the second time", a)
		}
	}
}
