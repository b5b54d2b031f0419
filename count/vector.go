package count

import "riddle/bits"

// vector keeps ages as bits.
type vector struct {
	bounds
	there  []uint64 // the bit of each age that is there
	enough []uint64 // the bits of the ages from the least on
}

// newVector gives a vector without ages.
func newVector(b bounds) *vector {
	v := &vector{bounds: b}
	for age := b.least; age <= b.top; age++ {
		v.enough, _ = bits.Set(v.enough, age)
	}
	return v
}

// Arm lets the age 0 be there.
func (v *vector) Arm() {
	v.there, _ = bits.Set(v.there, 0)
}

// Done tells whether there is an age from the least on.
func (v *vector) Done() bool {
	return bits.Count(bits.And(v.there, v.enough)) > 0
}

// Size tells in how many bytes there is a bit for each age.
func (v *vector) Size() int {
	return (v.top + byteBits) / byteBits
}

// Save gives the bits, those of the first ages first.
func (v *vector) Save() []byte {
	out := make([]byte, v.Size())
	for _, age := range bits.List(v.there) {
		out[age/byteBits] |= 1 << (age % byteBits)
	}
	return out
}

// grow moves all bits up by one.
func (v *vector) grow() {
	v.there, _ = bits.Up(v.there, 1)
	above := v.top + 1
	if !bits.Get(v.there, above) {
		return
	}
	v.there = bits.Clear(v.there, above)
	if v.stays {
		v.there, _ = bits.Set(v.there, v.top)
	}
}

// forget lets no bits be set.
func (v *vector) forget() {
	v.there = nil
}

// take reads the bits, unless there is one above the top.
func (v *vector) take(b []byte) bool {
	var list []int
	for i, told := range b {
		for k := range byteBits {
			if told>>k&1 == 1 {
				list = append(list, i*byteBits+k)
			}
		}
	}
	if n := len(list); n > 0 && list[n-1] > v.top {
		return false
	}
	v.there, _ = bits.Of(list)
	return true
}
