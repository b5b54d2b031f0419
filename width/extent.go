package width

// extent is how few and how many bytes a term matches, if it matches anything; else it is zero.
type extent struct {
	least, most int
	any         bool
}

// nothing gives the extent of what matches nothing between.
func nothing() extent {
	return extent{any: true}
}

// oneByte gives the extent of what matches one byte.
func oneByte() extent {
	return extent{least: 1, most: 1, any: true}
}

// then gives the extent of a term with another one behind it.
func (e extent) then(f extent) extent {
	if !e.any || !f.any {
		return extent{}
	}
	e.least = plus(e.least, f.least)
	if e.most == unbounded || f.most == unbounded {
		e.most = unbounded
	} else {
		e.most = plus(e.most, f.most)
	}
	return e
}

// or gives the extent of a choice between a term and another one.
func (e extent) or(f extent) extent {
	if !e.any {
		return f
	}
	if !f.any {
		return e
	}
	e.least = min(e.least, f.least)
	if e.most == unbounded || f.most == unbounded {
		e.most = unbounded
	} else {
		e.most = max(e.most, f.most)
	}
	return e
}

// repeated gives the extent of a term that comes some number of times.
func (e extent) repeated(least, most int) extent {
	if !e.any {
		return extent{any: least == 0}
	}
	e.least = times(e.least, least)
	switch {
	case e.most == 0 || most == 0:
		e.most = 0
	case e.most == unbounded || most == unbounded:
		e.most = unbounded
	default:
		e.most = times(e.most, most)
	}
	return e
}
