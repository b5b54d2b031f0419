package small

import (
	"slices"

	"riddle/api"
)

// parting is the states of a table in blocks: those of two blocks are known to do otherwise.
type parting struct {
	api.Table
	from   [][]int // of each state and class, as in Next: the states that it leads there from
	blocks [][]int // their states
	block  []int   // of each state
	// The blocks by which the others are still to be parted, in their order, and the same ones to ask for.
	queue  []int
	queued map[int]struct{}
	// Of each block: those of its states that lead where it is being parted by; none between.
	leading [][]int
}

// newParting gives the states of a right table in two blocks, those that are Done and the others.
func newParting(t api.Table) *parting {
	n := len(t.Done)
	p := &parting{Table: t, from: make([][]int, len(t.Next)), blocks: make([][]int, 1), block: make([]int, n), queued: map[int]struct{}{}, leading: make([][]int, n)}
	var done []int
	for s, is := range t.Done {
		p.blocks[0] = append(p.blocks[0], s)
		if is {
			done = append(done, s)
		}
		for class, to := range p.row(s) {
			at := int(to)*t.Classes + class
			p.from[at] = append(p.from[at], s)
		}
	}
	p.part(0, done)
	return p
}

// row tells where each class leads from a state.
func (p *parting) row(s int) []uint16 {
	return p.Next[s*p.Classes : (s+1)*p.Classes]
}

// refine parts the blocks till all states of each do the same.
func (p *parting) refine() {
	for len(p.queue) > 0 {
		block := p.queue[0]
		p.queue = p.queue[1:]
		delete(p.queued, block)
		// A copy, as the block may be parted by itself.
		into := slices.Clone(p.blocks[block])
		for class := range p.Classes {
			p.partBy(into, class)
		}
	}
}

// partBy parts each block into the states that a class leads to some states from, and the others.
func (p *parting) partBy(into []int, class int) {
	var met []int
	for _, to := range into {
		for _, s := range p.from[to*p.Classes+class] {
			block := p.block[s]
			if len(p.leading[block]) == 0 {
				met = append(met, block)
			}
			p.leading[block] = append(p.leading[block], s)
		}
	}
	for _, block := range met {
		apart := p.leading[block]
		p.leading[block] = nil
		p.part(block, apart)
	}
}

// part puts some states of a block into a block of their own, if there are some and others stay. It keeps their list.
func (p *parting) part(block int, apart []int) {
	if len(apart) == 0 || len(apart) == len(p.blocks[block]) {
		return
	}
	own := len(p.blocks)
	for _, s := range apart {
		p.block[s] = own
	}
	stay := slices.DeleteFunc(p.blocks[block], func(s int) bool { return p.block[s] == own })
	p.blocks[block] = stay
	p.blocks = append(p.blocks, apart)
	// If the whole block doesn't wait any more, all are parted by it, or soon will be (all states at once part nothing): then one of the two tells what the other one would, and the lesser one is less work. If it waits, both of them must.
	if _, ok := p.queued[block]; ok || len(apart) < len(stay) {
		p.enqueue(own)
	} else {
		p.enqueue(block)
	}
}

// enqueue lets a block that isn't in the queue wait there.
func (p *parting) enqueue(block int) {
	p.queue = append(p.queue, block)
	p.queued[block] = struct{}{}
}

// finish gives the table of the blocks that can be come to, numbered as they are found.
func (p *parting) finish() api.Table {
	out := api.Table{Map: p.Map, Classes: p.Classes}
	numbers := map[int]int{}
	var found []int // of each block a state that does what all of it do
	visit := func(s int) int {
		k, ok := numbers[p.block[s]]
		if !ok {
			k = len(found)
			numbers[p.block[s]] = k
			found = append(found, s)
			out.Done = append(out.Done, p.Done[s])
		}
		return k
	}
	visit(0)
	// Those that are found meanwhile are gone on from, too.
	for k := 0; k < len(found); k++ {
		for _, to := range p.row(found[k]) {
			out.Next = append(out.Next, uint16(visit(int(to))))
		}
	}
	return out
}
