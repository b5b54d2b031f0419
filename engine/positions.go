package engine

import (
	"riddle/api"
	"riddle/bits"
	"riddle/nfa"
	"riddle/posn"
	"riddle/trim"
)

const (
	armed     = 0 // the bit that tells that it may begin here
	wordBytes = 8
)

// smallGraph gives a term's graph, made smaller.
func smallGraph(t api.Term) (api.Graph, api.Errno) {
	g, code := posn.Build(t)
	if code != api.OK {
		return api.Graph{}, code
	}
	if g, code = trim.Trim(g); code != api.OK {
		return api.Graph{}, code
	}
	return trim.Merge(g)
}

// positions runs a graph on bits.
type positions struct {
	*nfa.Machine
	mode  int
	state []uint64
}

// newPositions gives what runs a graph on bits.
func newPositions(g api.Graph, mode int) (runner, api.Errno) {
	m, code := nfa.New(g)
	if code != api.OK {
		return nil, code
	}
	return &positions{Machine: m, mode: mode}, api.OK
}

func (p *positions) kind() int {
	return Positions
}

func (p *positions) restart() {
	p.state = nil
	if p.mode != Free {
		p.arm()
	}
}

func (p *positions) arm() {
	p.state, _ = bits.Set(p.state, armed)
}

func (p *positions) take(b byte) {
	p.state = p.Step(p.state, b)
	if p.mode == Always {
		p.arm()
	}
}

func (p *positions) isDone() bool {
	return p.Done(p.state)
}

func (p *positions) size() int {
	return (p.Width() + byteBits - 1) / byteBits
}

// save gives the bits, the first ones first.
func (p *positions) save() []byte {
	out := make([]byte, p.size())
	for i := range min(len(out), len(p.state)*wordBytes) {
		out[i] = byte(p.state[i/wordBytes] >> (i % wordBytes * byteBits))
	}
	return out
}

func (p *positions) load(b []byte) bool {
	state := make([]uint64, (len(b)+wordBytes-1)/wordBytes)
	for i, told := range b {
		state[i/wordBytes] |= uint64(told) << (i % wordBytes * byteBits)
	}
	if !p.canBe(state) {
		return false
	}
	p.state = state
	return true
}

// canBe tells whether a state has no bits beyond those that there are, and is armed as the mode arms it.
func (p *positions) canBe(state []uint64) bool {
	n := bits.Count(state)
	if bits.Count(bits.Low(state, p.Width())) < n {
		return false
	}
	isArmed := bits.Get(state, armed)
	switch p.mode {
	case Always:
		return isArmed
	case Once:
		// Only the beginning is armed, where no byte came yet.
		return !isArmed || n == 1
	}
	return true
}
