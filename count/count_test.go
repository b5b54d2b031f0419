package count_test

import (
	"bytes"
	"encoding/binary"
	"fmt"
	"maps"
	"math"
	"math/rand"
	"slices"
	"testing"

	"riddle/api"
	"riddle/count"
	"riddle/sample"
)

// made gives a counter whose bounds are right.
func made(t *testing.T, set string, least, most, kind int) *count.Counter {
	t.Helper()
	c, code := count.New(sample.Class(set), least, most, kind)
	if code != api.OK || c == nil {
		t.Fatalf("%d to %d, kind %d: %v", least, most, kind, code)
	}
	return c
}

// give lets a counter take the bytes of a text; an exclamation mark arms it.
func give(c *count.Counter, text string) {
	for _, b := range []byte(text) {
		if b == '!' {
			c.Arm()
		} else {
			c.Step(b)
		}
	}
}

// told gives a counter's way through a text as the answers of Done.
func told(c *count.Counter, text string) string {
	out := ""
	for i := range text {
		give(c, text[i:i+1])
		if c.Done() {
			out += "1"
		} else {
			out += "0"
		}
	}
	return out
}

// kinds gives the kinds that there are for a greatest number.
func kinds(most int) []int {
	if most == -1 {
		return []int{count.Bits, count.Ring, count.Span}
	}
	return []int{count.Bits, count.Ring}
}

// model is a counter by the document's words.
type model struct {
	set         string
	least, most int
	ages        map[int]struct{}
}

// newModel gives a model without ages.
func newModel(set string, least, most int) *model {
	return &model{set: set, least: least, most: most, ages: map[int]struct{}{}}
}

// top gives Cap.
func (m *model) top() int {
	if m.most == -1 {
		return m.least
	}
	return m.most
}

// arm lets the age 0 be there.
func (m *model) arm() {
	m.ages[0] = struct{}{}
}

// step lets a byte come.
func (m *model) step(b byte) {
	older := map[int]struct{}{}
	for age := range m.ages {
		switch {
		case !bytes.Contains([]byte(m.set), []byte{b}):
		case m.most == -1:
			older[min(age+1, m.least)] = struct{}{}
		case age < m.most:
			older[age+1] = struct{}{}
		}
	}
	m.ages = older
}

// done tells whether there is an age from the least on.
func (m *model) done() bool {
	for age := range m.ages {
		if age >= m.least {
			return true
		}
	}
	return false
}

// list gives the ages, rising.
func (m *model) list() []int {
	return slices.Sorted(maps.Keys(m.ages))
}

// size gives the bytes that a kind saves.
func (m *model) size(kind int) int {
	return []int{(m.top() + 8) / 8, 2 + 2*(m.top()+1), 2}[kind]
}

// save gives what a kind saves.
func (m *model) save(kind int) []byte {
	out := make([]byte, m.size(kind))
	list := m.list()
	put := func(i, n int) { binary.LittleEndian.PutUint16(out[2*i:], uint16(n)) }
	switch kind {
	case count.Bits:
		for _, age := range list {
			out[age/8] |= 1 << (age % 8)
		}
	case count.Ring:
		put(0, len(list))
		for i, age := range list {
			put(i+1, age)
		}
	case count.Span:
		if len(list) > 0 {
			put(0, list[len(list)-1]+1)
		}
	}
	return out
}

// load gives the ages that bytes tell a kind, and whether they are what it can save.
func (m *model) load(kind int, b []byte) ([]int, bool) {
	var list []int
	number := func(i int) int { return int(binary.LittleEndian.Uint16(b[2*i:])) }
	switch kind {
	case count.Bits:
		for k := range 8 * len(b) {
			if b[k/8]/(1<<(k%8))%2 == 1 {
				list = append(list, k)
			}
		}
	case count.Ring:
		for i := range min(number(0), len(b)/2-1) {
			list = append(list, number(i+1))
		}
	case count.Span:
		if n := number(0); n > 0 {
			list = append(list, n-1)
		}
	}
	for i, age := range list {
		if age > m.top() || i > 0 && age <= list[i-1] {
			return nil, false
		}
	}
	other := newModel(m.set, m.least, m.most)
	for _, age := range list {
		other.ages[age] = struct{}{}
	}
	return list, bytes.Equal(other.save(kind), b)
}

// hold holds what a counter answers against the model.
func (m *model) hold(t *testing.T, c *count.Counter, kind int) {
	t.Helper()
	if got := c.Save(); c.Done() != m.done() || c.Size() != m.size(kind) || !bytes.Equal(got, m.save(kind)) {
		t.Fatalf("%d to %d, kind %d, ages %v: Done %v, Size %d, Save %v", m.least, m.most, kind, m.list(), c.Done(), c.Size(), got)
	}
}

func TestExamples(t *testing.T) {
	for kind, size := range []int{1, 10} {
		c := made(t, "a", 2, 3, kind)
		if got := told(c, "!aaaa"); got != "00110" || c.Size() != size {
			t.Errorf("%d: %s, Size %d", kind, got, c.Size())
		}
	}
}

// P17.1: all bounds near those that there may be, and far from them; all kinds, and others.
func TestNew(t *testing.T) {
	far := []int{math.MinInt, -1 << 32, -256, 256, 1 << 32, 1<<32 + 5, math.MaxInt}
	numbers, others := slices.Clone(far), slices.Clone(far)
	for n := -5; n <= 205; n++ {
		numbers = append(numbers, n)
	}
	for kind := -3; kind <= 5; kind++ {
		others = append(others, kind)
	}
	taken := 0
	for _, least := range numbers {
		for _, most := range numbers {
			for _, kind := range others {
				right := 0 <= least && least <= 200 && (most == -1 || least <= most && most <= 200)
				right = right && (kind == 0 || kind == 1 || kind == 2 && most == -1)
				c, code := count.New(sample.Class("ab"), least, most, kind)
				if !right {
					if c != nil || code != api.ErrArg {
						t.Errorf("%d to %d, kind %d: %v, %v", least, most, kind, c, code)
					}
					continue
				}
				taken++
				if c == nil || code != api.OK {
					t.Fatalf("%d to %d, kind %d: %v", least, most, kind, code)
				}
				newModel("ab", least, most).hold(t, c, kind)
			}
		}
	}
	if taken != 2*201*202/2+3*201 {
		t.Errorf("%d counters", taken)
	}
	if count.Bits != 0 || count.Ring != 1 || count.Span != 2 {
		t.Error("the kinds' numbers")
	}
}

// P17.2, told by hand.
func TestByHand(t *testing.T) {
	for _, c := range []struct {
		least, most int
		text, want  string
	}{
		{0, 0, "!a!x!!a", "1010110"},
		{0, 0, "ax!x", "0010"},
		{0, 1, "!aa", "110"},
		{0, 2, "!aaa", "1110"},
		{0, -1, "aa!aabax!", "001111101"},
		{1, 1, "!a!a!xa", "0111100"},
		{1, -1, "!aaax!b", "0111001"},
		{2, 2, "!aaa", "0010"},
		{2, 2, "!a!aa", "00011"},
		{2, 2, "!!a!!aa", "0000011"},
		{2, 2, "!xaa", "0000"},
		{2, 3, "!abaaa", "001100"},
		{2, 3, "!aa!aaaa", "00111110"},
		{2, -1, "!ab!ababx!ab", "001111110001"},
		{3, 4, "aaa!aaxaaa!aaa", "00000000000001"},
		{3, 5, "!aaaa!aaaaa", "00011110111"},
		{3, -1, "!aa!x!aaaa", "0000000011"},
	} {
		for _, kind := range kinds(c.most) {
			if got := told(made(t, "ab", c.least, c.most, kind), c.text); got != c.want {
				t.Errorf("%d to %d, kind %d: %s: %s, not %s", c.least, c.most, kind, c.text, got, c.want)
			}
		}
	}
}

// P17.2: each byte, for sets of no bytes, some, and all.
func TestBytes(t *testing.T) {
	all := ""
	for b := range 256 {
		all += string([]byte{byte(b)})
	}
	for _, set := range []string{"", "a", "\x00", "\xff", "\x00?@\x7f\x80\xbf\xc0\xff", all[1:], all} {
		for b := range 256 {
			for kind := range 3 {
				c := made(t, set, 1, -1, kind)
				c.Arm()
				c.Step(byte(b))
				if is := bytes.Contains([]byte(set), []byte{byte(b)}); c.Done() != is {
					t.Errorf("%q, kind %d: by %d: %v", set, kind, b, !is)
				}
			}
		}
	}
}

// grow gives bounds, mostly small ones; pick chooses a number below another one.
func grow(pick func(n int) int) (least, most int) {
	least = pick(1 + []int{4, 10, 70, 200}[pick(4)])
	if pick(3) == 0 {
		return least, -1
	}
	return least, min(200, least+pick(1+[]int{3, 20, 200}[pick(3)]))
}

// P17.2, P17.3: any bounds and moments: all kinds against the model, behind each call.
func TestGrown(t *testing.T) {
	r := rand.New(rand.NewSource(1))
	done, all := 0, 0
	for range 1500 {
		least, most := grow(r.Intn)
		seldom := 2 + r.Intn(30) // a byte that isn't in the set
		often := 1 + r.Intn(6)   // a moment
		m := newModel("ab\xff", least, most)
		var list []*count.Counter
		for _, kind := range kinds(most) {
			list = append(list, made(t, m.set, least, most, kind))
		}
		for range 40 + r.Intn(3*m.top()+1) {
			b := "abab\xff"[r.Intn(5)]
			if r.Intn(seldom*(1+m.top()/2)) == 0 {
				b = "cA\x00\xfe"[r.Intn(4)]
			}
			if arm := r.Intn(often) == 0; arm {
				m.arm()
				for _, c := range list {
					c.Arm()
				}
			} else {
				m.step(b)
				for _, c := range list {
					c.Step(b)
				}
			}
			for kind, c := range list {
				m.hold(t, c, kind)
			}
			all++
			if m.done() {
				done++
			}
		}
	}
	if done < all/5 || done > all-all/5 {
		t.Errorf("Done at %d of %d", done, all)
	}
}

// P17.3, told by hand.
func TestSaveByHand(t *testing.T) {
	for _, c := range []struct {
		least, most, kind int
		text              string
		want              []byte
	}{
		{0, 0, count.Bits, "", []byte{0}},
		{0, 0, count.Bits, "!", []byte{1}},
		{0, 0, count.Ring, "!", []byte{1, 0, 0, 0}},
		{0, -1, count.Bits, "!aaa", []byte{1}},
		{0, -1, count.Ring, "!aaa", []byte{1, 0, 0, 0}},
		{0, -1, count.Span, "", []byte{0, 0}},
		{0, -1, count.Span, "!aaa", []byte{1, 0}},
		{1, 7, count.Bits, "!aaaaa!aa!", []byte{1<<7 | 1<<2 | 1}},
		{1, 8, count.Bits, "!aaaaa!aa!a", []byte{1<<3 | 1<<1, 1}},
		{1, 8, count.Bits, "!aaaaa!aa!aa", []byte{1<<4 | 1<<2, 0}},
		{1, 3, count.Ring, "!a!a!a!", []byte{4, 0, 0, 0, 1, 0, 2, 0, 3, 0}},
		{1, 3, count.Ring, "!a!a!a!aa", []byte{2, 0, 2, 0, 3, 0, 0, 0, 0, 0}},
		{1, 3, count.Ring, "!a!a!a!aax", make([]byte, 10)},
		{3, -1, count.Ring, "!a!a!a!aa", []byte{2, 0, 2, 0, 3, 0, 0, 0, 0, 0}},
		{3, -1, count.Bits, "!a!a!a!aa", []byte{1<<3 | 1<<2}},
		{3, -1, count.Span, "!a!a!", []byte{3, 0}},
		{3, -1, count.Span, "!a!a!a!aa", []byte{4, 0}},
		{3, -1, count.Span, "!aax", []byte{0, 0}},
		{200, -1, count.Span, "!a", []byte{2, 0}},
	} {
		x := made(t, "a", c.least, c.most, c.kind)
		give(x, c.text)
		if got := x.Save(); !bytes.Equal(got, c.want) || x.Size() != len(c.want) {
			t.Errorf("%d to %d, kind %d: %s: %v, Size %d, not %v", c.least, c.most, c.kind, c.text, got, x.Size(), c.want)
		}
	}
}

// P17.4: too few and too many bytes, ahead of bytes that can't be; and nothing has changed.
func TestLoadLength(t *testing.T) {
	for _, x := range [][2]int{{0, 0}, {0, -1}, {2, 3}, {3, 7}, {3, 8}, {5, -1}, {200, 200}, {200, -1}} {
		for _, kind := range kinds(x[1]) {
			c := made(t, "a", x[0], x[1], kind)
			give(c, "!aa!a!")
			before := c.Save()
			for n := range 2*c.Size() + 3 {
				for _, b := range []byte{0, 1, 255} {
					want := api.ErrShort
					switch {
					case n > c.Size():
						want = api.ErrTail
					case n == c.Size():
						continue
					}
					if code := c.Load(bytes.Repeat([]byte{b}, n)); code != want || !bytes.Equal(c.Save(), before) {
						t.Errorf("%v, kind %d: %d bytes: %v; %v, before %v", x, kind, n, code, c.Save(), before)
					}
				}
			}
			if code := c.Load(nil); code != api.ErrShort {
				t.Errorf("%v, kind %d: nothing: %v", x, kind, code)
			}
			if code := c.Load(make([]byte, 1<<20)); code != api.ErrTail {
				t.Errorf("%v, kind %d: very much: %v", x, kind, code)
			}
		}
	}
}

// try lets a counter load bytes of its Size, and holds it against the model; it tells whether they were taken.
func try(t *testing.T, m *model, kind int, b []byte) bool {
	t.Helper()
	c := made(t, m.set, m.least, m.most, kind)
	give(c, "!a!aa!")
	before := c.Save()
	list, right := m.load(kind, b)
	code := c.Load(b)
	if !right {
		if code != api.ErrBad || !bytes.Equal(c.Save(), before) {
			t.Fatalf("%d to %d, kind %d: %v: %v, %v, before %v", m.least, m.most, kind, b, code, c.Save(), before)
		}
		return false
	}
	other := newModel(m.set, m.least, m.most)
	for _, age := range list {
		other.ages[age] = struct{}{}
	}
	if code != api.OK {
		t.Fatalf("%d to %d, kind %d: %v: %v", m.least, m.most, kind, b, code)
	}
	other.hold(t, c, kind)
	// It goes on with just these ages, till they are gone, or all too great.
	for i := range m.top() + 2 {
		if i%3 == 1 {
			other.arm()
			c.Arm()
		}
		other.step('a')
		c.Step('a')
		if kind != count.Span {
			other.hold(t, c, kind)
		} else if c.Done() != other.done() {
			t.Fatalf("%d to %d: %v, then %d: Done %v", m.least, m.most, b, i, c.Done())
		}
	}
	return true
}

// P17.4: all that Bits and Span may be given, for few ages.
func TestLoadAll(t *testing.T) {
	for _, x := range [][2]int{{0, 0}, {0, 1}, {1, 5}, {2, 6}, {3, 7}, {0, -1}, {1, -1}, {6, -1}, {7, -1}} {
		m := newModel("a", x[0], x[1])
		taken := 0
		for b := range 256 {
			if try(t, m, count.Bits, []byte{byte(b)}) {
				taken++
			}
		}
		if taken != 1<<(m.top()+1) {
			t.Errorf("%v: %d", x, taken)
		}
	}
	for _, least := range []int{0, 1, 6, 199, 200} {
		taken := 0
		for n := range 65536 {
			if try(t, newModel("a", least, -1), count.Span, []byte{byte(n), byte(n >> 8)}) {
				taken++
			}
		}
		if taken != least+2 {
			t.Errorf("%d: %d", least, taken)
		}
	}
}

// P17.4: more than one byte of bits, with each bit alone above and below Cap, and many.
func TestLoadBits(t *testing.T) {
	r := rand.New(rand.NewSource(2))
	for _, x := range [][2]int{{0, 8}, {1, 14}, {2, 15}, {3, 16}, {62, 62}, {9, 63}, {64, -1}, {100, 127}, {128, -1}, {199, 199}, {5, 200}, {200, -1}} {
		m := newModel("a", x[0], x[1])
		size := m.size(count.Bits)
		for k := range 8 * size {
			b := make([]byte, size)
			b[k/8] = 1 << (k % 8)
			if try(t, m, count.Bits, b) != (k <= m.top()) {
				t.Errorf("%v: the bit %d", x, k)
			}
			if k <= m.top() && k%9 > 0 {
				continue
			}
			r.Read(b)
			b[k/8] |= 1 << (k % 8)
			if k <= m.top() {
				// What is above Cap is cleared: these bytes are taken.
				for up := m.top() + 1; up < 8*size; up++ {
					b[up/8] &^= 1 << (up % 8)
				}
			}
			if try(t, m, count.Bits, b) != (k <= m.top()) {
				t.Errorf("%v: with the bit %d: %v", x, k, b)
			}
		}
	}
}

// P17.4: all that Ring may be given of some numbers, for few ages.
func TestLoadRing(t *testing.T) {
	numbers := []int{0, 1, 2, 3, 4, 5, 255, 256, 257, 65535}
	for _, x := range [][2]int{{0, 0}, {0, 1}, {1, 2}, {2, 3}, {0, -1}, {1, -1}, {2, -1}, {3, -1}} {
		m := newModel("a", x[0], x[1])
		taken := 0
		b := make([]byte, m.size(count.Ring))
		var fill func(i int)
		fill = func(i int) {
			if 2*i == len(b) {
				if try(t, m, count.Ring, b) {
					taken++
				}
				return
			}
			for _, n := range numbers {
				binary.LittleEndian.PutUint16(b[2*i:], uint16(n))
				fill(i + 1)
			}
		}
		fill(0)
		if taken != 1<<(m.top()+1) {
			t.Errorf("%v: %d", x, taken)
		}
	}
}

// P17.4: of what was saved each number turned into another one.
func TestLoadTurned(t *testing.T) {
	r := rand.New(rand.NewSource(3))
	taken, all := 0, 0
	for range 60 {
		least, most := grow(r.Intn)
		m := newModel("a", least, most)
		for age := range m.top() + 1 {
			if r.Intn(3) == 0 {
				m.ages[age] = struct{}{}
			}
		}
		for _, kind := range kinds(most) {
			b := m.save(kind)
			if !try(t, m, kind, b) {
				t.Fatalf("%d to %d, kind %d: %v", least, most, kind, b)
			}
			for range 30 {
				turned := slices.Clone(b)
				at := r.Intn(len(b)/2*2 + 1)
				turned[min(at, len(b)-1)] = byte([]int{0, 1, m.top(), m.top() + 1, m.top() + 2, r.Intn(256)}[r.Intn(6)])
				all++
				if try(t, m, kind, turned) {
					taken++
				}
			}
		}
	}
	if taken < all/20 || taken > all-all/20 {
		t.Errorf("%d of %d are taken", taken, all)
	}
}

// P17.4: what Save gives is taken by another counter of the same bounds, whatever it had, which goes on alike.
func TestGoesOn(t *testing.T) {
	r := rand.New(rand.NewSource(4))
	done := 0
	for range 2000 {
		least, most := grow(r.Intn)
		for _, kind := range kinds(most) {
			one, two := made(t, "ab", least, most, kind), made(t, "ab", least, most, kind)
			// Both have had bytes, of other numbers, so what they keep stands elsewhere.
			give(one, string(sample.Text(r.Intn, "aaaabbbb!!", 3*least+20)))
			give(two, string(sample.Text(r.Intn, "aaabbb!!", 2*least+9))+"!"+string(sample.Text(r.Intn, "ab!x", 3)))
			saved := one.Save()
			if code := two.Load(saved); code != api.OK || !bytes.Equal(two.Save(), saved) || two.Done() != one.Done() {
				t.Fatalf("%d to %d, kind %d: %v: %v, %v", least, most, kind, saved, code, two.Save())
			}
			rest := string(sample.Text(r.Intn, "aaaaabbbbbb!!!"+"x"[:r.Intn(2)], 2*least+20))
			for i := range rest {
				give(one, rest[i:i+1])
				give(two, rest[i:i+1])
				if one.Done() != two.Done() || !bytes.Equal(one.Save(), two.Save()) {
					t.Fatalf("%d to %d, kind %d: %v, then %s: %v, %v", least, most, kind, saved, rest[:i+1], one.Save(), two.Save())
				}
				if one.Done() {
					done++
				}
			}
		}
	}
	if done < 20000 {
		t.Errorf("only %d times Done", done)
	}
}

// P17.5, and rules 5 and 6: what is loaded isn't changed and isn't kept, what is saved is new memory, and counters are by themselves.
func TestMemory(t *testing.T) {
	for _, x := range [][2]int{{0, 0}, {2, 3}, {3, 9}, {4, -1}, {200, -1}} {
		for _, kind := range kinds(x[1]) {
			c, other := made(t, "a", x[0], x[1], kind), made(t, "a", x[0], x[1], kind)
			give(c, "!aa!a!")
			none, kept := other.Save(), c.Save()
			one, two := c.Save(), c.Save()
			scrub(one)
			if !bytes.Equal(two, kept) || !bytes.Equal(c.Save(), kept) || !bytes.Equal(other.Save(), none) {
				t.Errorf("%v, kind %d: shared memory: %v, %v, %v", x, kind, two, c.Save(), other.Save())
			}
			give(c, "a!a")
			later := c.Save()
			if !bytes.Equal(two, kept) {
				t.Errorf("%v, kind %d: what was saved goes on: %v", x, kind, two)
			}
			b := append(slices.Clone(kept), "spare"...)
			if code := c.Load(b[:len(kept)]); code != api.OK || !bytes.Equal(b, append(slices.Clone(kept), "spare"...)) {
				t.Errorf("%v, kind %d: %v, %v", x, kind, code, b)
			}
			if code := other.Load(b[:len(kept)]); code != api.OK {
				t.Errorf("%v, kind %d: %v", x, kind, code)
			}
			scrub(b)
			give(c, "a!a")
			if !bytes.Equal(c.Save(), later) || !bytes.Equal(other.Save(), kept) {
				t.Errorf("%v, kind %d: kept: %v, not %v; %v, not %v", x, kind, c.Save(), later, other.Save(), kept)
			}
		}
	}
}

// scrub writes over a list and its spare room.
func scrub(b []byte) {
	b = b[:cap(b)]
	for i := range b {
		b[i] = 0xee
	}
}

// P17.5: a set that is written over behind the call.
func TestSetIsCopied(t *testing.T) {
	for kind := range 3 {
		set := sample.Class("a")
		c, _ := count.New(set, 1, -1, kind)
		set[0], set[1] = math.MaxUint64, 0
		give(c, "!")
		if got := told(c, "aax"); got != "110" {
			t.Errorf("%d: %s", kind, got)
		}
	}
}

// P2: what is asked between changes nothing, and the same calls give the same answers.
func TestSameAnswers(t *testing.T) {
	r := rand.New(rand.NewSource(5))
	for range 300 {
		least, most := grow(r.Intn)
		text := string(sample.Text(r.Intn, "aabb!!x", 60))
		for _, kind := range kinds(most) {
			one, two := made(t, "ab", least, most, kind), made(t, "ab", least, most, kind)
			asked, first := "", fmt.Sprint(told(one, text), one.Save())
			for i := range text {
				two.Size()
				two.Save()
				two.Done()
				two.Load(nil)
				asked += told(two, text[i:i+1])
			}
			if second := fmt.Sprint(asked, two.Save()); first != second {
				t.Fatalf("%d to %d, kind %d: %s: %s, then %s", least, most, kind, text, first, second)
			}
		}
	}
}

// P1: many bytes and moments, of the greatest bounds: all kinds alike.
func TestGreat(t *testing.T) {
	r := rand.New(rand.NewSource(6))
	for _, x := range [][2]int{{0, 200}, {200, 200}, {100, 200}, {200, -1}, {0, -1}} {
		var list []*count.Counter
		for _, kind := range kinds(x[1]) {
			list = append(list, made(t, "a", x[0], x[1], kind))
		}
		done := 0
		for i := range 200000 {
			b := "!a"[r.Intn(2):2][:1]
			if i%1009 == 0 {
				b = "x"
			}
			for _, c := range list {
				give(c, b)
				if c.Done() != list[0].Done() {
					t.Fatalf("%v: not alike at %d", x, i)
				}
			}
			if list[0].Done() {
				done++
			}
		}
		if done < 50000 {
			t.Errorf("%v: Done %d times", x, done)
		}
	}
}
