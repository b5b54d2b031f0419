package bits_test

import (
	"math"
	"slices"
	"testing"

	"riddle/api"
	"riddle/bits"
)

// samples are vectors of many widths, some not in their one form, one wider than MaxBits.
func samples() [][]uint64 {
	wide := make([]uint64, api.MaxBits/64+3)
	wide[0], wide[len(wide)-2] = 1, 1<<63
	out := [][]uint64{
		nil, {}, {0}, {0, 0, 0}, {1}, {9, 1}, {18, 2, 0}, {1 << 63}, {0, 1 << 63},
		{math.MaxUint64, math.MaxUint64}, {math.MaxUint64, 0, 1, 0, 0}, {0, 0, 0, 5}, wide,
	}
	seed := uint64(1)
	for n := range 12 {
		v := make([]uint64, n%5)
		for i := range v {
			seed = seed*6364136223846793005 + 1442695040888963407
			v[i] = seed ^ seed>>29
		}
		out = append(out, v)
	}
	return out
}

// places are indexes within, at and far beyond each bound.
func places() []int {
	return []int{
		math.MinInt, -65536, -65, -64, -1, 0, 1, 2, 3, 4, 5, 31, 62, 63, 64, 65, 66, 127, 128, 129, 191, 192, 193, 255, 256,
		1000, 65471, 65472, 65535, 65536, 65537, 65600, 65664, 65727, 65728, 1 << 20, math.MaxInt - 63, math.MaxInt,
	}
}

// model is the bits of a vector by the document's words, one by one.
func model(v []uint64) map[int]bool {
	m := map[int]bool{}
	for i := range len(v) * 64 {
		if v[i/64]/(1<<(i%64))%2 == 1 {
			m[i] = true
		}
	}
	return m
}

func only(m map[int]bool, keep func(i int) bool) map[int]bool {
	out := map[int]bool{}
	for i := range m {
		if keep(i) {
			out[i] = true
		}
	}
	return out
}

// want checks that a vector is in its one form and has just these bits.
func want(t *testing.T, what string, got []uint64, m map[int]bool) {
	t.Helper()
	if len(got) > 0 && got[len(got)-1] == 0 {
		t.Errorf("%s: a word 0 at the end of %d words", what, len(got))
	}
	have := model(got)
	for i := range m {
		if !have[i] {
			t.Errorf("%s: the bit %d lacks", what, i)
		}
	}
	for i := range have {
		if !m[i] {
			t.Errorf("%s: the bit %d is too much", what, i)
		}
	}
}

func TestExample(t *testing.T) {
	v, e := bits.Of([]int{0, 64, 3})
	if e != api.OK || !slices.Equal(v, []uint64{9, 1}) {
		t.Errorf("Of: %v, %v", v, e)
	}
	up, e := bits.Up(v, 1)
	if e != api.OK || !slices.Equal(up, []uint64{18, 2}) {
		t.Errorf("Up: %v, %v", up, e)
	}
	if low := bits.Low(v, 4); !slices.Equal(low, []uint64{9}) {
		t.Errorf("Low: %v", low)
	}
	if list := bits.List([]uint64{18, 2}); !slices.Equal(list, []int{1, 4, 65}) {
		t.Errorf("List: %v", list)
	}
}

// P1.1
func TestTrimGetSetClear(t *testing.T) {
	for _, v := range samples() {
		m := model(v)
		want(t, "Trim", bits.Trim(v), m)
		for _, i := range places() {
			if bits.Get(v, i) != m[i] {
				t.Errorf("Get %d of %d words: %v", i, len(v), !m[i])
			}
			want(t, "Clear", bits.Clear(v, i), only(m, func(k int) bool { return k != i }))
			set, e := bits.Set(v, i)
			if i < 0 || i > 65535 {
				if e != api.ErrArg || len(set) != 0 {
					t.Errorf("Set %d: %d words, %v", i, len(set), e)
				}
				continue
			}
			more := only(m, func(int) bool { return true })
			more[i] = true
			if e != api.OK {
				t.Errorf("Set %d: %v", i, e)
			}
			want(t, "Set", set, more)
		}
	}
}

// P1.2
func TestAndOrMinus(t *testing.T) {
	for _, a := range samples() {
		for _, b := range samples() {
			ma, mb := model(a), model(b)
			or := only(ma, func(int) bool { return true })
			for i := range mb {
				or[i] = true
			}
			want(t, "And", bits.And(a, b), only(ma, func(i int) bool { return mb[i] }))
			want(t, "Or", bits.Or(a, b), or)
			want(t, "Minus", bits.Minus(a, b), only(ma, func(i int) bool { return !mb[i] }))
		}
	}
}

// P1.2
func TestUpLow(t *testing.T) {
	for _, v := range samples() {
		m := model(v)
		for _, n := range places() {
			want(t, "Low", bits.Low(v, n), only(m, func(i int) bool { return i < n }))
			up, e := bits.Up(v, n)
			if n < 0 || n > 65536 {
				if e != api.ErrArg || len(up) != 0 {
					t.Errorf("Up %d: %d words, %v", n, len(up), e)
				}
				continue
			}
			moved := map[int]bool{}
			for i := range m {
				moved[i+n] = true
			}
			if e != api.OK {
				t.Errorf("Up %d: %v", n, e)
			}
			want(t, "Up", up, moved)
		}
	}
}

// P1.3
func TestCountListOf(t *testing.T) {
	for _, v := range samples() {
		m := model(v)
		list := bits.List(v)
		if bits.Count(v) != len(m) || len(list) != len(m) {
			t.Errorf("Count %d, List of %d: %d bits", bits.Count(v), len(list), len(m))
		}
		if !slices.IsSorted(list) {
			t.Errorf("List isn't rising: %v", list)
		}
		for _, i := range list {
			if !m[i] {
				t.Errorf("List: %d isn't set", i)
			}
		}
		if len(v) > api.MaxBits/64 {
			continue
		}
		back, e := bits.Of(append(list, list...))
		if e != api.OK || !slices.Equal(back, bits.Trim(v)) {
			t.Errorf("Of List: %v, %v", back, e)
		}
	}
	if v, e := bits.Of(nil); e != api.OK || len(v) != 0 {
		t.Errorf("Of nothing: %v, %v", v, e)
	}
	if v, e := bits.Of([]int{65535, 64, 65535, 0}); e != api.OK || len(v) != 1024 || bits.Count(v) != 3 {
		t.Errorf("Of 65535: %d words, %v", len(v), e)
	}
	for _, i := range []int{math.MinInt, -1, 65536, math.MaxInt} {
		for _, list := range [][]int{{i}, {0, i}, {i, 0}, {5, i, 70}} {
			if v, e := bits.Of(list); e != api.ErrArg || len(v) != 0 {
				t.Errorf("Of %v: %v, %v", list, v, e)
			}
		}
	}
}

// calls are all calls that answer vectors of two vectors.
func calls() map[string]func(a, b []uint64) []uint64 {
	return map[string]func(a, b []uint64) []uint64{
		"Trim":         func(a, b []uint64) []uint64 { return bits.Trim(a) },
		"Set in":       func(a, b []uint64) []uint64 { v, _ := bits.Set(a, 1); return v },
		"Set behind":   func(a, b []uint64) []uint64 { v, _ := bits.Set(a, 64*len(a)); return v },
		"Clear":        func(a, b []uint64) []uint64 { return bits.Clear(a, 3) },
		"Clear below":  func(a, b []uint64) []uint64 { return bits.Clear(a, -1) },
		"Clear behind": func(a, b []uint64) []uint64 { return bits.Clear(a, 1000) },
		"And":          bits.And,
		"Or":           bits.Or,
		"Minus":        bits.Minus,
		"Up by 0":      func(a, b []uint64) []uint64 { v, _ := bits.Up(a, 0); return v },
		"Up by 65":     func(a, b []uint64) []uint64 { v, _ := bits.Up(a, 65); return v },
		"Low":          func(a, b []uint64) []uint64 { return bits.Low(a, 70) },
		"Low of all":   func(a, b []uint64) []uint64 { return bits.Low(a, 1000) },
		"Low of none":  func(a, b []uint64) []uint64 { return bits.Low(a, 0) },
	}
}

// P1.4, and rule 5: the spare room counts, too.
func TestNewMemory(t *testing.T) {
	full := func(v []uint64) []uint64 { return append(slices.Clone(v), 77, 78, 79)[:len(v)] }
	for _, v := range [][]uint64{nil, {9, 1}, {9, 1, 0}, {0, 0}, {1, 2, 3, 4}} {
		for _, u := range [][]uint64{nil, {5}, {3, 0, 6, 0}} {
			for name, call := range calls() {
				a, b := full(v), full(u)
				one, two := call(a, b), call(a, b)
				kept := slices.Clone(two)
				all := one[:cap(one)]
				for i := range all {
					all[i] = 99
				}
				if !slices.Equal(two, kept) {
					t.Errorf("%s: two answers share memory", name)
				}
				if !slices.Equal(a[:cap(a)][:len(v)+3], append(slices.Clone(v), 77, 78, 79)) || !slices.Equal(b[:cap(b)][:len(u)+3], append(slices.Clone(u), 77, 78, 79)) {
					t.Errorf("%s: what was handed in was changed, or is shared: %v, %v", name, v, u)
				}
			}
		}
	}
}

// P1.4 for the calls on lists of places.
func TestNewLists(t *testing.T) {
	list := []int{130, 0, 64, 0}
	v, _ := bits.Of(list)
	if !slices.Equal(list, []int{130, 0, 64, 0}) {
		t.Errorf("Of changed its list: %v", list)
	}
	list[0] = 7
	places, other := bits.List(v), bits.List(v)
	places = places[:cap(places)]
	for i := range places {
		places[i] = -5
	}
	if !slices.Equal(other, []int{0, 64, 130}) || !slices.Equal(v, []uint64{1, 1, 4}) {
		t.Errorf("List's answers share memory: %v, %v", other, v)
	}
}

// P2: the same calls, the same answers; what was asked between doesn't matter.
func TestSameAnswers(t *testing.T) {
	for name, call := range calls() {
		for _, a := range samples() {
			for _, b := range samples() {
				one := call(a, b)
				bits.Of([]int{1, 2, 3})
				if !slices.Equal(one, call(a, b)) {
					t.Errorf("%s: another answer at the second time", name)
				}
			}
		}
	}
}
