package table_test

import (
	"bytes"
	"encoding/binary"
	"math"
	"math/rand"
	"slices"
	"testing"

	"riddle/api"
	"riddle/sample"
	"riddle/subset"
	"riddle/table"
)

// built gives the machine by states of a pattern that has one.
func built(t *testing.T, pattern string, always bool) api.Table {
	t.Helper()
	x, code := subset.Build(sample.GraphOf(pattern), always)
	if code != api.OK {
		t.Fatalf("%q: %v", pattern, code)
	}
	return x
}

// packed gives the bytes of a table that is right.
func packed(t *testing.T, x api.Table) []byte {
	t.Helper()
	b, code := table.Pack(x)
	if code != api.OK {
		t.Fatalf("%s: %v", sample.ToldTable(x), code)
	}
	return b
}

// great gives a table of the most states and classes, all of which lead elsewhere.
func great() api.Table {
	x := api.Table{Classes: 256}
	for b := range x.Map {
		x.Map[b] = byte(255 - b)
	}
	for s := range 300 {
		x.Done = append(x.Done, s%7 == 6 || s == 299)
		for class := range 256 {
			x.Next = append(x.Next, uint16((s*31+class+1)%300))
		}
	}
	return x
}

// tables gives tables of all sizes, the least and the greatest ones too.
func tables() []api.Table {
	r := rand.New(rand.NewSource(1))
	out := []api.Table{sample.TableOf("0"), sample.TableOf("0!"), great(), sample.Table(r.Intn, 300, 1), sample.Table(r.Intn, 1, 256), sample.Table(r.Intn, 299, 2), sample.Table(r.Intn, 257, 3), sample.Table(r.Intn, 2, 255)}
	for i := range 1000 {
		out = append(out, sample.Table(r.Intn, 1+i%19, 1+i%7))
	}
	return out
}

func TestExamples(t *testing.T) {
	x := built(t, "ab", true)
	if got := table.Scan(x, []byte("abab")); !slices.Equal(got, []int{2, 4}) {
		t.Errorf("%v", got)
	}
	if b := packed(t, x); len(b) != 260+18+3 {
		t.Errorf("%d bytes", len(b))
	}
}

// P16.1: each state, by each byte.
func TestStep(t *testing.T) {
	for _, x := range tables() {
		for s := range x.Done {
			for b := range 256 {
				// Each step asks whether the table is right: of great ones a few bytes must do.
				if len(x.Next) > 100 && b%85 > 0 {
					continue
				}
				want := int(x.Next[s*x.Classes+int(x.Map[b])])
				if got, code := table.Step(x, s, byte(b)); got != want || code != api.OK {
					t.Fatalf("%.300s: from %d by %d to %d, %v, not %d", sample.ToldTable(x), s, b, got, code, want)
				}
			}
		}
	}
}

// P16.1: states that a table hasn't, and tables that aren't right, whatever the state.
func TestStepWrong(t *testing.T) {
	for _, n := range []int{1, 3, 300} {
		x := sample.Table(rand.New(rand.NewSource(2)).Intn, n, 2)
		for _, s := range []int{math.MinInt, -300, -2, -1, n, n + 1, 301, 65535, 65536, 1 << 32, math.MaxInt/2 + 1, math.MaxInt} {
			for _, b := range []byte{0, 'a', 255} {
				if got, code := table.Step(x, s, b); got != 0 || code != api.ErrArg {
					t.Errorf("%d states: from %d by %d: %d, %v", n, s, b, got, code)
				}
			}
		}
	}
	for name, x := range sample.WrongTables() {
		for _, s := range []int{math.MinInt, -1, 0, 1, 2, 3, math.MaxInt} {
			if got, code := table.Step(x, s, 'a'); got != 0 || code != api.ErrArg {
				t.Errorf("%s: from %d: %d, %v", name, s, got, code)
			}
		}
	}
}

// P16.1: texts told by hand; the byte b has the class b mod the number of classes.
func TestScanByHand(t *testing.T) {
	for _, c := range []struct {
		states, text string
		want         []int
	}{
		{"0", "", nil},
		{"0", "\x00\x01\xff", nil},
		{"0!", "", []int{0}},
		{"0!", "\x00\x01\xff", []int{0, 1, 2, 3}},
		{"1 0!", "", nil},
		{"1 0!", "\x00\x00\x00\x00", []int{1, 3}},
		{"1! 0", "\x00\x00\x00\x00", []int{0, 2, 4}},
		{"1 1!", "\xff\xff", []int{1, 2}},
		{"0,1 0,1!", "\x00\x01\x02\x03\xff\xfe", []int{2, 4, 5}},
		{"0,1 2,1 0,0!", "\x01\x00\x01\x01\x01\x00", []int{2, 6}},
		{"0,1! 1,1", "\x00\x00\x01\x00", []int{0, 1, 2}},
		{"2,2,1 0,0,0! 1,2,0", "\x02\x00\x00\x03\x01", []int{1, 4}},
	} {
		if got := table.Scan(sample.TableOf(c.states), []byte(c.text)); !slices.Equal(got, c.want) {
			t.Errorf("%s in %q: %v, not %v", c.states, c.text, got, c.want)
		}
	}
}

// P16.1: any tables and texts.
func TestScan(t *testing.T) {
	r := rand.New(rand.NewSource(3))
	some := 0
	for _, x := range tables() {
		w := make([]byte, r.Intn(40))
		r.Read(w)
		got := table.Scan(x, w)
		if want := sample.Run(x, w); !slices.Equal(got, want) {
			t.Fatalf("%.300s in %q: %v, not %v", sample.ToldTable(x), w, got, want)
		}
		some += len(got)
	}
	if some < 5000 {
		t.Errorf("only %d places", some)
	}
}

// P16.1: a table that isn't right finds nothing.
func TestScanWrong(t *testing.T) {
	for name, x := range sample.WrongTables() {
		for _, w := range []string{"", "a", "abab\x00\xff"} {
			if got := table.Scan(x, []byte(w)); len(got) != 0 {
				t.Errorf("%s in %q: %v", name, w, got)
			}
		}
	}
}

// written gives a table's bytes by the document's words.
func written(x api.Table) []byte {
	out := binary.LittleEndian.AppendUint16(nil, uint16(x.Classes))
	out = binary.LittleEndian.AppendUint16(out, uint16(len(x.Done)))
	out = append(out, x.Map[:]...)
	for _, to := range x.Next {
		out = binary.LittleEndian.AppendUint16(out, to)
	}
	for _, done := range x.Done {
		if done {
			out = append(out, 1)
		} else {
			out = append(out, 0)
		}
	}
	return out
}

// P16.2, told by hand.
func TestPackByHand(t *testing.T) {
	x := sample.TableOf("1,2 0,0! 2,2")
	x.Map = [256]byte{0: 1, 'a': 1, 255: 1}
	want := make([]byte, 260)
	want[0], want[2], want[4], want[4+'a'], want[259] = 2, 3, 1, 1, 1
	want = append(want, 1, 0, 2, 0, 0, 0, 0, 0, 2, 0, 2, 0, 0, 1, 0)
	if got := packed(t, x); !bytes.Equal(got, want) {
		t.Errorf("%v, not %v", got, want)
	}
	// 256 classes, 300 states: the second bytes count.
	if got := packed(t, great()); len(got) != 260+300*256*2+300 || !bytes.Equal(got[:6], []byte{0, 1, 44, 1, 255, 254}) || !bytes.Equal(got[260:264], []byte{1, 0, 2, 0}) || !bytes.Equal(got[260+2*255:260+2*257], []byte{0, 1, 32, 0}) {
		t.Errorf("%d bytes: %v", len(got), got[:10])
	}
}

// P16.2, P16.3: any tables as bytes, and read again.
func TestPackedAndRead(t *testing.T) {
	for _, x := range tables() {
		b := packed(t, x)
		if !bytes.Equal(b, written(x)) {
			t.Fatalf("%.300s: %v", sample.ToldTable(x), b[:min(len(b), 300)])
		}
		if y, code := table.Unpack(b); code != api.OK || !sample.SameTable(x, y) {
			t.Fatalf("%.300s: %v, %.300s", sample.ToldTable(x), code, sample.ToldTable(y))
		}
	}
}

// P16.2: tables that aren't right.
func TestPackWrong(t *testing.T) {
	for name, x := range sample.WrongTables() {
		if b, code := table.Pack(x); len(b) != 0 || code != api.ErrArg {
			t.Errorf("%s: %v, %v", name, b, code)
		}
	}
}

// refused checks that bytes are no table, for this reason.
func refused(t *testing.T, what string, b []byte, want api.Errno) {
	t.Helper()
	if x, code := table.Unpack(b); code != want || !sample.SameTable(x, api.Table{}) {
		t.Errorf("%s: %v, not %v; %d states", what, code, want, len(x.Done))
	}
}

// P16.3: too few and too many bytes.
func TestUnpackLength(t *testing.T) {
	for _, states := range []string{"0", "1,2 2,0! 1,1", "1 0! 0 0"} {
		b := packed(t, sample.TableOf(states))
		for n := range b {
			refused(t, states+" cut", b[:n], api.ErrShort)
		}
		for n := range 5 {
			for _, more := range []byte{0, 1, 255} {
				refused(t, states+" longer", append(slices.Clone(b), bytes.Repeat([]byte{more}, n+1)...), api.ErrTail)
			}
		}
	}
	refused(t, "nothing", nil, api.ErrShort)
	b := packed(t, great())
	refused(t, "the greatest one, cut", b[:len(b)-1], api.ErrShort)
	refused(t, "the greatest one, longer", append(b, 0), api.ErrTail)
	refused(t, "noughts", make([]byte, 1000), api.ErrBad)
	refused(t, "many noughts, then", append(b, make([]byte, 1<<20)...), api.ErrTail)
}

// head gives bytes that tell so many classes and states, and then noughts, so many in all.
func head(classes, states, length int) []byte {
	out := binary.LittleEndian.AppendUint16(nil, uint16(classes))
	out = binary.LittleEndian.AppendUint16(out, uint16(states))
	return append(out, make([]byte, length)...)[:length]
}

// P16.3: numbers of classes and states that there can't be, ahead of all but less than 260 bytes.
func TestUnpackNumbers(t *testing.T) {
	numbers := []int{0, 1, 2, 127, 255, 256, 257, 299, 300, 301, 511, 512, 513, 32768, 65280, 65534, 65535}
	for _, classes := range numbers {
		for _, states := range numbers {
			size := 260 + states*classes*2 + states
			lengths := []int{0, 4, 259, 260, 261, 1000}
			if size < 1<<20 {
				lengths = append(lengths, size-1, size, size+1)
			}
			for _, n := range lengths {
				want := api.OK
				switch {
				case n < 260:
					want = api.ErrShort
				case classes < 1 || classes > 256 || states < 1 || states > 300:
					want = api.ErrBad
				case n < size:
					want = api.ErrShort
				case n > size:
					want = api.ErrTail
				}
				if x, code := table.Unpack(head(classes, states, max(n, 0))); code != want || want == api.OK && (x.Classes != classes || len(x.Done) != states) {
					t.Errorf("%d classes, %d states, %d bytes: %v, not %v", classes, states, n, code, want)
				}
			}
		}
	}
}

// P16.3: each byte behind the numbers turned to each other value: the table that it tells, if there is one.
func TestUnpackTurned(t *testing.T) {
	x := sample.TableOf("1,2 2,0! 1,1")
	b := packed(t, x)
	taken, bad := 0, 0
	for i := 4; i < len(b); i++ {
		for v := range 256 {
			turned := slices.Clone(b)
			turned[i] = byte(v)
			right := v < 2
			if at := i - 260; at >= 0 && at < 12 {
				right = at%2 == 0 && v < 3 || at%2 == 1 && v == 0
			}
			if !right {
				bad++
				refused(t, "turned", turned, api.ErrBad)
				// Too few and too many bytes come ahead of it.
				refused(t, "turned and cut", turned[:max(260, i)], api.ErrShort)
				refused(t, "turned and longer", append(turned, 7), api.ErrTail)
				continue
			}
			taken++
			if y, code := table.Unpack(turned); code != api.OK || !bytes.Equal(written(y), turned) {
				t.Errorf("%d at %d: %v, %s", v, i, code, sample.ToldTable(y))
			}
		}
	}
	if taken != 2*256+3*6+6+2*3 || bad != 256*len(b[4:])-taken {
		t.Errorf("%d taken, %d not", taken, bad)
	}
}

// P16.3: the bounds of classes and states at the greatest table.
func TestUnpackGreatest(t *testing.T) {
	b := packed(t, great())
	for _, c := range []struct{ at, first, second, want int }{
		{260, 43, 1, 0}, {260, 44, 1, int(api.ErrBad)}, {260, 255, 255, int(api.ErrBad)},
		{260 + 2*76799, 43, 1, 0}, {260 + 2*76799, 44, 1, int(api.ErrBad)}, {260 + 2*76799, 0, 2, int(api.ErrBad)},
	} {
		turned := slices.Clone(b)
		turned[c.at], turned[c.at+1] = byte(c.first), byte(c.second)
		if x, code := table.Unpack(turned); int(code) != c.want || code == api.OK && !bytes.Equal(written(x), turned) {
			t.Errorf("%v: %v", c, code)
		}
	}
	for _, v := range []byte{2, 3, 128, 255} {
		turned := slices.Clone(b)
		turned[len(b)-1] = v
		refused(t, "the last state", turned, api.ErrBad)
	}
}

// P16.3, P1: any bytes: no table, or the one whose bytes they are.
func TestUnpackAny(t *testing.T) {
	r := rand.New(rand.NewSource(5))
	taken := 0
	for i := range 20000 {
		classes, states := 1+r.Intn(3), 1+r.Intn(4)
		b := head(classes, states, 260+states*classes*2+states+max(0, r.Intn(9)-7))
		for range r.Intn(6) {
			b[r.Intn(len(b))] = byte(r.Intn(3))
		}
		if i%50 == 0 {
			r.Read(b)
		}
		x, code := table.Unpack(b)
		if code != api.OK && !sample.SameTable(x, api.Table{}) {
			t.Fatalf("%v: %v, %v", b, code, x)
		}
		if code == api.OK {
			taken++
			if !bytes.Equal(packed(t, x), b) {
				t.Fatalf("%v: %s", b, sample.ToldTable(x))
			}
		}
	}
	if taken < 4000 || taken > 16000 {
		t.Errorf("%d of 20000 are tables", taken)
	}
}

// P16.3, and P2: what is handed in isn't changed and isn't kept, answers are new memory, and the same at a second time.
func TestMemory(t *testing.T) {
	r := rand.New(rand.NewSource(6))
	for i := range 2000 {
		x := sample.RoomyTable(sample.Table(r.Intn, 1+i%12, 1+i%4))
		before := sample.RoomyTable(x)
		w := append(sample.Text(r.Intn, "ab\x00\xff", 9), "spare"...)
		text := w[:len(w)-5]
		kept := slices.Clone(w)
		one, two := table.Scan(x, text), table.Scan(x, text)
		first, second := packed(t, x), packed(t, x)
		table.Step(x, 0, 'a')
		if !slices.Equal(one, two) || !bytes.Equal(first, second) || !bytes.Equal(w, kept) || !sample.IdenticalTables(x, before) {
			t.Fatalf("%v, before %v; %v, then %v; %q", x, before, one, two, w)
		}
		scrub(one)
		scrub(first)
		if !slices.Equal(two, sample.Run(x, text)) || !bytes.Equal(second, written(x)) || !sample.IdenticalTables(x, before) {
			t.Fatalf("%s: shared memory", sample.ToldTable(before))
		}
		b := append(second, "spare"...)
		told, again, code := read(t, b[:len(second)])
		if code != api.OK || !bytes.Equal(b, append(written(x), "spare"...)) || !sample.ApartTables(x, told, again) {
			t.Fatalf("%s: %v, changed, or shared memory", sample.ToldTable(x), code)
		}
		scrub(b)
		if !sample.SameTable(told, x) || !sample.SameTable(again, x) {
			t.Fatalf("%s: kept", sample.ToldTable(x))
		}
	}
}

// read reads a table twice.
func read(t *testing.T, b []byte) (one, two api.Table, code api.Errno) {
	t.Helper()
	one, code = table.Unpack(b)
	two, again := table.Unpack(b)
	if code != again {
		t.Fatalf("%v, then %v", code, again)
	}
	return one, two, code
}

// scrub writes over a list and its spare room.
func scrub[T any](list []T) {
	var none T
	list = list[:cap(list)]
	for i := range list {
		list[i] = none
	}
}

// P1: the greatest table, and a long text.
func TestGreat(t *testing.T) {
	x, w := great(), make([]byte, 1<<20)
	rand.New(rand.NewSource(7)).Read(w)
	if got := table.Scan(x, w); !slices.Equal(got, sample.Run(x, w)) || len(got) < 1<<16 {
		t.Errorf("%d places", len(got))
	}
}
