package count

import (
	"slices"

	"riddle/pack"
)

// ring keeps the moments themselves, in a list that goes on at its beginning behind its end: so no age needs be touched when a byte comes. No two moments have one age, so there are at most as many as ages that are kept.
type ring struct {
	bounds
	moments []int // how many bytes had come
	first   int   // where the oldest one stands
	n       int   // how many there are
	now     int   // how many bytes came
}

// newRing gives a ring without moments.
func newRing(b bounds) *ring {
	return &ring{bounds: b, moments: make([]int, b.top+1)}
}

// at gives the moment that has so many older ones ahead of it.
func (r *ring) at(i int) *int {
	return &r.moments[(r.first+i)%len(r.moments)]
}

// age tells the age of a moment that is there.
func (r *ring) age(i int) int {
	return min(r.now-*r.at(i), r.top)
}

// backwards goes through the ages of the moments, the latest moment first: so they rise.
func (r *ring) backwards(yield func(age int) bool) {
	for i := r.n - 1; i >= 0; i-- {
		if !yield(r.age(i)) {
			return
		}
	}
}

// put lets a moment be there that is later than all others.
func (r *ring) put(moment int) {
	*r.at(r.n) = moment
	r.n++
}

// Arm lets now be a moment, if it isn't one.
func (r *ring) Arm() {
	if r.n == 0 || r.age(r.n-1) > 0 {
		r.put(r.now)
	}
}

// Done tells whether the oldest moment's age, which is the greatest one, is enough.
func (r *ring) Done() bool {
	return r.n > 0 && r.age(0) >= r.least
}

// Size tells in how many bytes there is a number for each age, and their number.
func (r *ring) Size() int {
	return numberSize * (1 + len(r.moments))
}

// Save gives how many ages there are, these, and noughts where there could be more.
func (r *ring) Save() []byte {
	var pen pack.Pen
	pen.Uint(uint64(r.n), numberSize)
	for age := range r.backwards {
		pen.Uint(uint64(age), numberSize)
	}
	out := make([]byte, r.Size())
	copy(out, pen.Data())
	return out
}

// grow lets a byte have come, and the oldest moment be gone, if it tells nothing any more.
func (r *ring) grow() {
	r.now++
	if r.isSpent() {
		r.first = (r.first + 1) % len(r.moments)
		r.n--
	}
}

// isSpent tells whether the oldest moment is too long ago, or, where ages stay, whether the one behind it has come to the same age.
func (r *ring) isSpent() bool {
	if r.stays {
		return r.n > 1 && r.age(1) == r.top
	}
	return r.n > 0 && r.now-*r.at(0) > r.top
}

// forget lets no moments be there.
func (r *ring) forget() {
	r.n = 0
}

// take reads the ages, unless they don't rise, or what stands behind them isn't nothing.
func (r *ring) take(b []byte) bool {
	eye := pack.NewEye(b)
	n := number(eye)
	if n > len(r.moments) {
		return false
	}
	var list []int
	above := -1
	for range n {
		age := number(eye)
		if age <= above || age > r.top {
			return false
		}
		list = append(list, age)
		above = age
	}
	for range len(r.moments) - n {
		if number(eye) != 0 {
			return false
		}
	}
	r.forget()
	for _, age := range slices.Backward(list) {
		r.put(r.now - age)
	}
	return true
}
