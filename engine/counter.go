package engine

import (
	"slices"

	"riddle/api"
	"riddle/count"
)

const leastSize = 2 // bytes that a counter is saved in, at least

// isRepeatedSet tells whether a term is a set, some number of times: a counter matches it.
func isRepeatedSet(t api.Term) bool {
	// A term that isn't right may have no kid.
	return t.Op == api.OpRep && len(t.Kids) == 1 && t.Kids[0].Op == api.OpSet
}

// counter runs a repeated set.
type counter struct{ *count.Counter }

// newCounter gives what counts for a repeated set.
func newCounter(t api.Term) (runner, api.Errno) {
	c, code := count.New(t.Kids[0].Set, t.Min, t.Max, count.Bits)
	if code != api.OK {
		return nil, code
	}
	return &counter{c}, api.OK
}

func (c *counter) kind() int {
	return Counted
}

// restart lets no moments be there, as noughts tell.
func (c *counter) restart() {
	c.Load(make([]byte, c.Size()))
}

func (c *counter) arm() {
	c.Arm()
}

func (c *counter) take(b byte) {
	c.Step(b)
}

func (c *counter) isDone() bool {
	return c.Done()
}

func (c *counter) size() int {
	return max(c.Size(), leastSize)
}

// save gives what the counter saves, and noughts behind it.
func (c *counter) save() []byte {
	out := make([]byte, c.size())
	copy(out, c.Save())
	return out
}

func (c *counter) load(b []byte) bool {
	told, behind := b[:c.Size()], b[c.Size():]
	if slices.ContainsFunc(behind, func(more byte) bool { return more != 0 }) {
		return false
	}
	return c.Load(told) == api.OK
}
