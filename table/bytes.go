package table

import (
	"riddle/api"
	"riddle/pack"
	"riddle/small"
)

// How many bytes the numbers of a table are written in.
const (
	classesSize = 2
	statesSize  = 2
	classSize   = 1
	nextSize    = 2
	doneSize    = 1
	allBytes    = 256
	headSize    = classesSize + statesSize + allBytes*classSize // what stands ahead of Next
)

// Pack writes a table as bytes.
func Pack(t api.Table) ([]byte, api.Errno) {
	if code := small.Check(t); code != api.OK {
		return nil, code
	}
	// All numbers of a right table are small enough to be written.
	var pen pack.Pen
	pen.Uint(uint64(t.Classes), classesSize)
	pen.Uint(uint64(len(t.Done)), statesSize)
	for _, class := range t.Map {
		pen.Uint(uint64(class), classSize)
	}
	for _, state := range t.Next {
		pen.Uint(uint64(state), nextSize)
	}
	for _, done := range t.Done {
		pen.Uint(flag(done), doneSize)
	}
	return pen.Data(), api.OK
}

// flag gives the number that tells a truth.
func flag(is bool) uint64 {
	if is {
		return 1
	}
	return 0
}

// Unpack reads a table.
func Unpack(b []byte) (api.Table, api.Errno) {
	if len(b) < headSize {
		return api.Table{}, api.ErrShort
	}
	eye := pack.NewEye(b)
	classes, states := number(eye, classesSize), number(eye, statesSize)
	if classes < 1 || classes > allBytes || states < 1 || states > api.MaxStates {
		return api.Table{}, api.ErrBad
	}
	size := headSize + states*(classes*nextSize+doneSize)
	if len(b) < size {
		return api.Table{}, api.ErrShort
	}
	if len(b) > size {
		return api.Table{}, api.ErrTail
	}
	t := api.Table{Classes: classes, Next: make([]uint16, states*classes), Done: make([]bool, states)}
	if !fill(&t, eye) || small.Check(t) != api.OK {
		return api.Table{}, api.ErrBad
	}
	return t, api.OK
}

// fill reads what stands behind the numbers of classes and states, unless what is neither true nor false should tell whether a state is Done.
func fill(t *api.Table, eye *pack.Eye) bool {
	for b := range t.Map {
		t.Map[b] = byte(number(eye, classSize))
	}
	for i := range t.Next {
		t.Next[i] = uint16(number(eye, nextSize))
	}
	for s := range t.Done {
		told := number(eye, doneSize)
		if told > 1 {
			return false
		}
		t.Done[s] = told == 1
	}
	return true
}

// number reads a number; there are bytes enough.
func number(eye *pack.Eye, size int) int {
	n, _ := eye.Uint(size)
	return int(n)
}
