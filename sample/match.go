package sample

import (
	"riddle/api"
)

// Ends has, for each place of a text at which a term may begin, the places at which it may end then, as bits.
type Ends [8]uint

// Match tells by a term's meaning alone (layer 10) where it may end in a text of less than 8 bytes. (By tables of all places, not by layer 10, which the tests needn't trust.)
func Match(t api.Term, w string) Ends {
	switch t.Op {
	case api.OpCat:
		out := stay(w)
		for _, kid := range t.Kids {
			out = follow(out, Match(kid, w))
		}
		return out
	case api.OpAlt:
		var out Ends
		for _, kid := range t.Kids {
			out = either(out, Match(kid, w))
		}
		return out
	case api.OpRep:
		return again(Match(t.Kids[0], w), t.Min, t.Max, w)
	}
	var out Ends
	for i := range len(w) + 1 {
		switch {
		case t.Op == api.OpEmpty, t.Op == api.OpBegin && i == 0, t.Op == api.OpEnd && i == len(w):
			out[i] = 1 << i
		case i < len(w) && (t.Op == api.OpSet && has(t.Set, w[i]) || t.Op == api.OpDot && w[i] != '\n'):
			out[i] = 1 << (i + 1)
		}
	}
	return out
}

// has tells whether a byte is in a class.
func has(c api.Class, b byte) bool {
	return c[b/64]>>(b%64)&1 == 1
}

// stay gives where nothing between ends.
func stay(w string) Ends {
	return Match(Op(api.OpEmpty), w)
}

// follow gives where a term may end behind another one.
func follow(a, b Ends) Ends {
	var out Ends
	for i := range a {
		for j := range b {
			if a[i]>>j&1 == 1 {
				out[i] |= b[j]
			}
		}
	}
	return out
}

// either gives where one of two terms may end.
func either(a, b Ends) Ends {
	for i := range a {
		a[i] |= b[i]
	}
	return a
}

// again gives where a term may end that comes some number of times.
func again(kid Ends, least, most int, w string) Ends {
	// Any number of times is no more than once for each byte, beyond the least.
	if most == -1 {
		most = least + len(w)
	}
	var out Ends
	now := stay(w)
	for k := 0; k <= most; k++ {
		if k >= least {
			out = either(out, now)
		}
		now = follow(now, kid)
	}
	return out
}
