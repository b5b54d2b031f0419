package count

// bounds tells which ages are kept: those from 0 to the top.
type bounds struct {
	least int  // from this age on a moment is as long ago as it must be
	top   int  // chapter 17's Cap
	stays bool // an age that comes to be above the top is the top again; else it is gone
}

// boundsOf gives the bounds of ages for a set that comes so many times.
func boundsOf(least, most int) bounds {
	if most == unbounded {
		return bounds{least: least, top: least, stays: true}
	}
	return bounds{least: least, top: most}
}
