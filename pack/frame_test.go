package pack_test

import (
	"bytes"
	"encoding/binary"
	"hash/crc32"
	"testing"

	"riddle/api"
	"riddle/pack"
)

// bodies are texts of many lengths, with all bytes in them.
func bodies() [][]byte {
	out := [][]byte{nil, {}, {0}, {255}, {0, 0, 0, 0}, {255, 255, 255, 255}, []byte("body"), []byte("RDL\x01")}
	seed := uint64(7)
	for _, n := range []int{5, 12, 31, 64, 255, 256, 257, 1000} {
		b := make([]byte, n)
		for i := range b {
			seed = seed*6364136223846793005 + 1442695040888963407
			b[i] = byte(seed >> 33)
		}
		out = append(out, b)
	}
	return out
}

// frame gives by the document's words, and the library's sum, what Seal must give.
func frame(version byte, body []byte) []byte {
	b := []byte{'R', 'D', 'L', version}
	b = binary.LittleEndian.AppendUint32(b, uint32(len(body)))
	b = append(b, body...)
	return binary.LittleEndian.AppendUint32(b, crc32.ChecksumIEEE(b))
}

// P4.3
func TestSum(t *testing.T) {
	if pack.Sum(nil) != 0 {
		t.Errorf("Sum of nothing: %x", pack.Sum(nil))
	}
	for b := range 256 {
		one := []byte{byte(b)}
		if pack.Sum(one) != crc32.ChecksumIEEE(one) {
			t.Errorf("Sum of %d: %x", b, pack.Sum(one))
		}
	}
	for _, b := range bodies() {
		if pack.Sum(b) != crc32.ChecksumIEEE(b) {
			t.Errorf("Sum of %d bytes: %x", len(b), pack.Sum(b))
		}
	}
}

// P4.4
func TestSealed(t *testing.T) {
	for _, version := range []byte{0, 1, 'R', 255} {
		for _, body := range bodies() {
			f := pack.Seal(version, body)
			if !bytes.Equal(f, frame(version, body)) {
				t.Errorf("Seal of %d bytes: %v", len(body), f)
			}
			if b, e := pack.Unseal(version, f); e != api.OK || !bytes.Equal(b, body) {
				t.Errorf("Unseal of %d bytes: %d bytes, %v", len(body), len(b), e)
			}
		}
	}
}

// P4.4: each error, and the order in which they are looked for.
func TestRefused(t *testing.T) {
	whole := string(frame(3, []byte("body")))
	empty := string(frame(3, nil))
	with := func(s string, at int, b byte) string { return s[:at] + string([]byte{b}) + s[at+1:] }
	for _, c := range []struct {
		what, text string
		code       api.Errno
	}{
		{"nothing", "", api.ErrShort},
		{"11 bytes without the magic", "???????????", api.ErrShort},
		{"11 bytes of a frame", empty[:11], api.ErrShort},
		{"12 bytes without the magic", "????????????", api.ErrMagic},
		{"another first letter", with(whole, 0, 'r'), api.ErrMagic},
		{"another second letter", with(whole, 1, 'd'), api.ErrMagic},
		{"another third letter", with(whole, 2, 'l'), api.ErrMagic},
		{"another magic and version", with(with(whole, 2, 'l'), 3, 4), api.ErrMagic},
		{"another version", with(whole, 3, 4), api.ErrVersion},
		{"another version, cut off", with(whole, 3, 4)[:14], api.ErrVersion},
		{"another version, too long", with(whole, 3, 4) + "x", api.ErrVersion},
		{"one byte cut off", whole[:15], api.ErrShort},
		{"the sum cut off", whole[:12], api.ErrShort},
		{"a greater number", with(whole, 4, 5), api.ErrShort},
		{"a number of 2^31 and 4", with(whole, 7, 0x80), api.ErrShort},
		{"the greatest number", whole[:4] + "\xff\xff\xff\xff" + whole[8:], api.ErrShort},
		{"a number that wraps round with the frame's 12", whole[:4] + "\xf8\xff\xff\xff" + whole[8:], api.ErrShort},
		{"a lesser number", with(whole, 4, 3), api.ErrTail},
		{"one byte more", whole + "x", api.ErrTail},
		{"one frame behind another", whole + whole, api.ErrTail},
		{"one byte more, and a wrong sum", with(whole, 9, 'O') + "x", api.ErrTail},
		{"another body", with(whole, 9, 'O'), api.ErrSum},
		{"another sum", with(whole, 15, whole[15]^1), api.ErrSum},
		{"another sum of nothing", with(empty, 8, empty[8]^1), api.ErrSum},
	} {
		if b, e := pack.Unseal(3, []byte(c.text)); e != c.code || len(b) != 0 {
			t.Errorf("%s: %q, %v, not %v", c.what, b, e, c.code)
		}
	}
	// A wrong version stays wrong where the sum fits to it.
	if b, e := pack.Unseal(3, frame(4, []byte("body"))); e != api.ErrVersion || len(b) != 0 {
		t.Errorf("a frame of the version 4: %q, %v", b, e)
	}
}

// P4.4: a frame cut off anywhere is too short.
func TestCutOff(t *testing.T) {
	f := frame(3, []byte("some body"))
	for n := range len(f) {
		if b, e := pack.Unseal(3, f[:n]); e != api.ErrShort || len(b) != 0 {
			t.Errorf("%d bytes: %q, %v", n, b, e)
		}
	}
}

// turn changes bits of a text from a bit on; the bits of a byte follow one another by their weight.
func turn(b []byte, from int, bits uint32) {
	for i := range 32 {
		if at := from + i; bits>>i&1 == 1 && at/8 < len(b) {
			b[at/8] ^= 1 << (at % 8)
		}
	}
}

// P4.5
func TestTurnedBits(t *testing.T) {
	patterns := []uint32{1, 3, 0x80000001, 0xffffffff, 0xaaaaaaab, 0xedb88321, 0xedb88320, 0xdb710641, 0x00010001}
	seed := uint64(9)
	for range 20 {
		seed = seed*6364136223846793005 + 1442695040888963407
		patterns = append(patterns, uint32(seed>>32)|1)
	}
	for _, body := range bodies() {
		if len(body) > 100 {
			continue
		}
		f := frame(1, body)
		for from := 8 * 8; from < 8*len(f); from++ {
			for _, bits := range patterns {
				g := bytes.Clone(f)
				turn(g, from, bits)
				if bytes.Equal(f, g) {
					continue
				}
				if b, e := pack.Unseal(1, g); e != api.ErrSum || len(b) != 0 {
					t.Fatalf("%x from the bit %d on of %d bytes: %v, %v", bits, from, len(f), b, e)
				}
			}
		}
	}
}

// P4.5, rule 5: for frames.
func TestFrameMemory(t *testing.T) {
	body := spare("body")
	one, two := pack.Seal(3, body), pack.Seal(3, body)
	isSame(t, "Seal", body, "body")
	scrub(body)
	want := frame(3, []byte("body"))
	scrub(one)
	if !bytes.Equal(two, want) {
		t.Errorf("Seal's answers share memory: %v", two)
	}
	f := spare(string(want))
	x, _ := pack.Unseal(3, f)
	y, _ := pack.Unseal(3, f)
	pack.Sum(f)
	isSame(t, "Unseal", f, string(want))
	scrub(x)
	isSame(t, "Unseal's answer", f, string(want))
	scrub(f)
	if string(y) != "body" {
		t.Errorf("Unseal's answers share memory: %q", y)
	}
}

// P2: the same calls, the same answers; what was asked between doesn't matter.
func TestSameAnswers(t *testing.T) {
	for _, a := range bodies() {
		one := pack.Seal(1, a)
		for _, b := range bodies() {
			pack.Unseal(2, pack.Seal(2, b))
		}
		if !bytes.Equal(one, pack.Seal(1, a)) {
			t.Errorf("another frame of %d bytes at the second time", len(a))
		}
	}
}
