package sample

import (
	"bytes"
	"slices"
	"strconv"

	"riddle/api"
)

// Texts gives texts as lists of bytes.
func Texts(list ...string) [][]byte {
	var out [][]byte
	for _, text := range list {
		out = append(out, []byte(text))
	}
	return out
}

// ToldTexts gives texts as one, quoted; of long ones only the beginning.
func ToldTexts(list [][]byte) string {
	out := ""
	for _, text := range list {
		out += " " + strconv.Quote(string(text))
	}
	if len(out) > 300 {
		out = out[:300] + " and so on"
	}
	return out
}

// Literals gives at most so many literals, of these bytes: most of them short, and some of them longer ones with one before it in them; pick chooses a number below another one.
func Literals(pick func(n int) int, bytes string, most int) [][]byte {
	var out [][]byte
	for range pick(most + 1) {
		text := append(Text(pick, bytes, pick(7)), bytes[pick(len(bytes))])
		if len(out) > 0 && pick(3) == 0 {
			text = slices.Concat(text, out[pick(len(out))], Text(pick, bytes, pick(2)))
		}
		out = append(out, text)
	}
	return out
}

// GreatLiterals gives lists of literals that are just not too many, too long or too much in all.
func GreatLiterals() [][][]byte {
	var apart, nested, all, many [][]byte
	for i := range 20 {
		apart = append(apart, append([]byte{byte(i)}, bytes.Repeat([]byte("a"), 199)...))
	}
	for n := range 88 {
		nested = append(nested, bytes.Repeat([]byte("a"), n+1))
	}
	for b := range 256 {
		all = append(all, []byte{byte(b)})
		text := bytes.Repeat([]byte{byte(b), byte(7 * b)}, 8)
		many = append(many, text[:16-b%8/5])
	}
	return [][][]byte{
		nil,
		apart,
		nested,
		all,
		many,
		slices.Repeat(Texts("a"), 256),
		slices.Repeat(Texts("aaaaaaaaaaaaaaa"), 256),
		Texts(string(bytes.Repeat([]byte("ab"), 100))),
	}
}

// Refused is a list of literals and the error that the document has for it.
type Refused struct {
	List [][]byte
	Code api.Errno
}

// WrongLiterals gives lists of literals that are refused, each for what comes first of all that is wrong.
func WrongLiterals() []Refused {
	long := func(n int) []byte { return bytes.Repeat([]byte("ab"), n)[:n] }
	some, much := Texts("a", "bc", "a"), slices.Repeat([][]byte{long(200)}, 20)
	with := func(list [][]byte, text []byte, at int) [][]byte {
		return slices.Insert(slices.Clone(list), at, text)
	}
	out := []Refused{
		{slices.Repeat(Texts("a"), 257), api.ErrCount},
		{make([][]byte, 257), api.ErrCount},
		{make([][]byte, 65536+1), api.ErrCount},
		{slices.Repeat([][]byte{long(200)}, 257), api.ErrCount},
		{slices.Repeat([][]byte{long(201)}, 300), api.ErrCount},
		{make([][]byte, 256), api.ErrArg},
		{make([][]byte, 1), api.ErrArg},
		{with(much, long(1), 0), api.ErrTotal},
		{with(much, long(1), 20), api.ErrTotal},
		{with(much, long(200), 7), api.ErrTotal},
		{slices.Repeat([][]byte{long(16)}, 256), api.ErrTotal},
		{slices.Repeat([][]byte{long(200)}, 256), api.ErrTotal},
		{with(slices.Repeat([][]byte{long(15)}, 255), long(4001-15*255), 255), api.ErrTotal},
	}
	for _, text := range [][]byte{nil, {}, long(201), long(202), long(256), long(457), long(4001), long(1 << 17)} {
		for at := range 4 {
			out = append(out, Refused{with(some, text, at), api.ErrArg}, Refused{with(much, text, 5*at), api.ErrArg})
		}
		out = append(out, Refused{with(with(much, long(7), 0), text, 21), api.ErrArg})
	}
	return out
}

// Hits gives by the document's words (P18.3) the literals in a text. (By holding each against each end of the text, not by layer 18, which the tests needn't trust.)
func Hits(list [][]byte, w []byte) []api.Hit {
	var out []api.Hit
	for end := range len(w) + 1 {
		for id, text := range list {
			if bytes.HasSuffix(w[:end], text) {
				out = append(out, api.Hit{Id: id, End: end})
			}
		}
	}
	return out
}

// RoomyTexts gives texts of other memory, with spare room in each list.
func RoomyTexts(list [][]byte) [][]byte {
	out := make([][]byte, 0, len(list)+2)
	for _, text := range list {
		out = append(out, append(slices.Grow(bytes.Clone(text), 3), 1, 2, 3)[:len(text)])
	}
	return append(out, []byte("spare"), nil)[:len(list)]
}

// IdenticalTexts tells whether two lists of texts are one, the spare room of their lists too.
func IdenticalTexts(a, b [][]byte) bool {
	return len(a) == len(b) && slices.EqualFunc(a[:cap(a)], b[:cap(b)], func(x, y []byte) bool {
		return len(x) == len(y) && bytes.Equal(x[:cap(x)], y[:cap(y)])
	})
}

// Overwrite writes over texts, and over their spare room.
func Overwrite(list [][]byte) {
	for _, text := range list[:cap(list)] {
		room := text[:cap(text)]
		for i := range room {
			room[i] = ^room[i]
		}
	}
	clear(list[:cap(list)])
}
