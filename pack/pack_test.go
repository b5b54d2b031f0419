package pack_test

import (
	"bytes"
	"encoding/binary"
	"math"
	"testing"

	"riddle/api"
	"riddle/pack"
)

// wrongSizes are numbers of bytes that no number may have.
func wrongSizes() []int {
	return []int{math.MinInt, math.MinInt / 8, -1 << 32, -8, -1, 0, 9, 16, 64, 256, 1 << 32, 1 << 61, 1<<61 + 1, math.MaxInt}
}

func TestExample(t *testing.T) {
	if sum := pack.Sum([]byte("123456789")); sum != 0xcbf43926 {
		t.Errorf("Sum: %x", sum)
	}
	var p pack.Pen
	if e := p.Uint(258, 2); e != api.OK || !bytes.Equal(p.Data(), []byte{2, 1}) {
		t.Errorf("Uint: %v, %v", p.Data(), e)
	}
	if f := pack.Seal(1, nil); len(f) != 12 {
		t.Errorf("Seal: %d bytes", len(f))
	}
}

// numbers are the least and the greatest of each size, those beside them, and mixed ones.
func numbers() []uint64 {
	out := []uint64{0, 1, 127, 128, 0x0102030405060708, math.MaxUint64 - 1, math.MaxUint64}
	for size := 1; size < 8; size++ {
		bound := uint64(1) << (8 * size)
		out = append(out, bound-1, bound, bound+1, bound/2)
	}
	return out
}

// fits tells by the document's words whether a number is below 256 to the power of size.
func fits(n uint64, size int) bool {
	for range size {
		n /= 256
	}
	return n == 0
}

// P4.1
func TestPenUint(t *testing.T) {
	for _, n := range numbers() {
		for size := 1; size <= 8; size++ {
			var p pack.Pen
			p.Uint(0xab, 1)
			e := p.Uint(n, size)
			if !fits(n, size) {
				if e != api.ErrArg || !bytes.Equal(p.Data(), []byte{0xab}) {
					t.Errorf("Uint %x in %d: %v, %v", n, size, p.Data(), e)
				}
				continue
			}
			all := binary.LittleEndian.AppendUint64([]byte{0xab}, n)
			if e != api.OK || !bytes.Equal(p.Data(), all[:1+size]) {
				t.Errorf("Uint %x in %d: %v, %v", n, size, p.Data(), e)
			}
		}
		for _, size := range wrongSizes() {
			var p pack.Pen
			p.Uint(0xab, 1)
			if e := p.Uint(n, size); e != api.ErrArg || !bytes.Equal(p.Data(), []byte{0xab}) {
				t.Errorf("Uint %x in %d: %v, %v", n, size, p.Data(), e)
			}
		}
	}
}

// P4.1
func TestPenBytes(t *testing.T) {
	var p pack.Pen
	if len(p.Data()) != 0 {
		t.Errorf("a new Pen has %v", p.Data())
	}
	var all []byte
	for _, n := range []int{0, 1, 3, 255, 256, 257, 65536, 70000} {
		b := bytes.Repeat([]byte{byte(n + 1)}, n)
		if e := p.Bytes(b); e != api.OK {
			t.Errorf("Bytes of %d: %v", n, e)
		}
		all = append(binary.LittleEndian.AppendUint32(all, uint32(n)), b...)
		if !bytes.Equal(p.Data(), all) {
			t.Fatalf("Bytes of %d: Data has %d bytes, not %d", n, len(p.Data()), len(all))
		}
	}
	var one, two pack.Pen
	one.Bytes(nil)
	two.Bytes([]byte{})
	if !bytes.Equal(one.Data(), []byte{0, 0, 0, 0}) || !bytes.Equal(two.Data(), one.Data()) {
		t.Errorf("Bytes of nothing: %v, %v", one.Data(), two.Data())
	}
}

// P4.2
func TestEyeUint(t *testing.T) {
	data := []byte{0x81, 0x02, 0xff, 0x04, 0x05, 0x06, 0x07, 0x88, 0x09}
	for n := range len(data) + 1 {
		// The room behind the data's end is no part of it.
		text := data[:n]
		for size := 1; size <= 8; size++ {
			x := pack.NewEye(text)
			got, e := x.Uint(size)
			if size > n {
				if got != 0 || e != api.ErrShort || x.Left() != n {
					t.Errorf("Uint of %d in %d: %x, %v, left %d", size, n, got, e, x.Left())
				}
				continue
			}
			var room [8]byte
			copy(room[:size], text)
			if got != binary.LittleEndian.Uint64(room[:]) || e != api.OK || x.Left() != n-size {
				t.Errorf("Uint of %d in %d: %x, %v, left %d", size, n, got, e, x.Left())
			}
		}
		for _, size := range wrongSizes() {
			x := pack.NewEye(text)
			// ErrArg comes first, also where the bytes would be too few.
			if got, e := x.Uint(size); got != 0 || e != api.ErrArg || x.Left() != n {
				t.Errorf("Uint of %d in %d: %x, %v, left %d", size, n, got, e, x.Left())
			}
		}
	}
}

// P4.2
func TestEyeBytes(t *testing.T) {
	for _, c := range []struct {
		data string
		want string
		code api.Errno
		left int
	}{
		{"", "", api.ErrShort, 0},
		{"\x00\x00\x00", "", api.ErrShort, 3},
		{"\x00\x00\x00\x00", "", api.OK, 0},
		{"\x00\x00\x00\x00a", "", api.OK, 1},
		{"\x01\x00\x00\x00", "", api.ErrShort, 4},
		{"\x01\x00\x00\x00a", "a", api.OK, 0},
		{"\x02\x00\x00\x00a", "", api.ErrShort, 5},
		{"\x02\x00\x00\x00abc", "ab", api.OK, 1},
		{"\x00\x01\x00\x00abc", "", api.ErrShort, 7},
		{"\xff\xff\xff\x7fabc", "", api.ErrShort, 7},
		{"\x00\x00\x00\x80abc", "", api.ErrShort, 7},
		{"\xff\xff\xff\xffabc", "", api.ErrShort, 7},
	} {
		x := pack.NewEye([]byte(c.data))
		b, e := x.Bytes()
		if string(b) != c.want || e != c.code || x.Left() != c.left {
			t.Errorf("Bytes of %q: %q, %v, left %d", c.data, b, e, x.Left())
		}
	}
}

// P4.2: with an error an Eye stays where it is, and goes on from there.
func TestEyeStays(t *testing.T) {
	x := pack.NewEye([]byte("z\x03\x00\x00\x00ab"))
	x.Uint(1)
	for range 3 {
		x.Uint(7)
		x.Uint(0)
		if b, e := x.Bytes(); len(b) != 0 || e != api.ErrShort || x.Left() != 6 {
			t.Fatalf("Bytes: %q, %v, left %d", b, e, x.Left())
		}
	}
	if n, e := x.Uint(4); n != 3 || e != api.OK {
		t.Errorf("Uint: %d, %v", n, e)
	}
	if n, e := x.Uint(2); n != 'a'+'b'*256 || e != api.OK || x.Left() != 0 {
		t.Errorf("Uint: %d, %v, left %d", n, e, x.Left())
	}
	if n, e := x.Uint(1); n != 0 || e != api.ErrShort {
		t.Errorf("Uint at the end: %d, %v", n, e)
	}
}

// P4.1, P4.2: what a Pen writes an Eye reads.
func TestWrittenAndRead(t *testing.T) {
	var p pack.Pen
	for _, n := range numbers() {
		for size := 1; size <= 8; size++ {
			if fits(n, size) {
				p.Uint(n, size)
				p.Bytes(bytes.Repeat([]byte{byte(n)}, size-1))
			}
		}
	}
	x := pack.NewEye(p.Data())
	for _, n := range numbers() {
		for size := 1; size <= 8; size++ {
			if !fits(n, size) {
				continue
			}
			got, e := x.Uint(size)
			b, code := x.Bytes()
			if got != n || e != api.OK || code != api.OK || !bytes.Equal(b, bytes.Repeat([]byte{byte(n)}, size-1)) {
				t.Errorf("%x in %d: %x, %v; %v, %v", n, size, got, e, b, code)
			}
		}
	}
	if x.Left() != 0 {
		t.Errorf("%d bytes are left", x.Left())
	}
}

// spare gives a text with spare room behind it.
func spare(s string) []byte {
	return append([]byte(s), "spare"...)[:len(s)]
}

// isSame checks that neither a text nor its spare room was changed.
func isSame(t *testing.T, what string, b []byte, s string) {
	t.Helper()
	if string(b) != s || string(b[:len(b)+5][len(b):]) != "spare" {
		t.Errorf("%s: what was handed in was changed, or is shared: %q", what, b[:len(b)+5])
	}
}

// scrub writes over a list and its spare room.
func scrub(b []byte) {
	b = b[:cap(b)]
	for i := range b {
		b[i] = 0xee
	}
}

// P4.5, rule 5: for Pens.
func TestPenMemory(t *testing.T) {
	var p pack.Pen
	b := spare("xyz")
	p.Bytes(b)
	isSame(t, "Bytes", b, "xyz")
	scrub(b)
	const want = "\x03\x00\x00\x00xyz"
	one, two := p.Data(), p.Data()
	scrub(one)
	if string(two) != want || string(p.Data()) != want {
		t.Errorf("Data's answers share memory: %q, %q", two, p.Data())
	}
	p.Uint(1, 1)
	scrub(two)
	if string(p.Data()) != want+"\x01" {
		t.Errorf("an answer of Data ahead of Uint is shared: %q", p.Data())
	}
	three := p.Data()
	p.Uint(2, 1)
	if string(three) != want+"\x01" {
		t.Errorf("Uint changed what was answered: %q", three)
	}
}

// P4.5, rules 5 and 6: for Eyes.
func TestEyeMemory(t *testing.T) {
	const text = "\x02\x00\x00\x00ab\x01\x00\x00\x00cde"
	data := spare(text)
	x, y := pack.NewEye(data), pack.NewEye(data)
	first, _ := x.Bytes()
	isSame(t, "Eye", data, text)
	scrub(data)
	scrub(first)
	second, e := x.Bytes()
	if string(second) != "c" || e != api.OK || x.Left() != 2 || y.Left() != len(text) {
		t.Errorf("Bytes: %q, %v, left %d, %d", second, e, x.Left(), y.Left())
	}
	scrub(second)
	if n, e := x.Uint(2); n != 'd'+'e'*256 || e != api.OK {
		t.Errorf("Uint: %x, %v", n, e)
	}
	if b, e := y.Bytes(); string(b) != "ab" || e != api.OK {
		t.Errorf("the other Eye: %q, %v", b, e)
	}
}
