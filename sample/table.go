package sample

import (
	"math"
	"slices"
	"strconv"
	"strings"

	"riddle/api"
)

// Table gives a right table of so many states and classes; pick chooses a number below another one. Some states do what others do, and some can't be come to.
func Table(pick func(n int) int, states, classes int) api.Table {
	t := api.Table{Classes: classes}
	for b := range t.Map {
		t.Map[b] = byte(pick(classes))
	}
	// States of one kind do the same: they lead to states of the same kinds.
	kinds := 1 + pick(states)
	of := make([][]int, kinds)
	for s := range states {
		of[s%kinds] = append(of[s%kinds], s)
	}
	leads := make([]int, kinds*classes)
	for i := range leads {
		leads[i] = pick(kinds)
	}
	done := make([]bool, kinds)
	for i := range done {
		done[i] = pick(2) == 0
	}
	for s := range states {
		t.Done = append(t.Done, done[s%kinds])
		for class := range classes {
			alike := of[leads[s%kinds*classes+class]]
			t.Next = append(t.Next, uint16(alike[pick(len(alike))]))
		}
	}
	return t
}

// ToldTable gives a table that is right as a text: its classes; the class of the byte 0, and each byte whose class isn't that of the one ahead of it, with its class; and for each state where the classes lead, with an exclamation mark, if it is Done.
func ToldTable(t api.Table) string {
	var b strings.Builder
	b.WriteString(strconv.Itoa(t.Classes) + ": " + strconv.Itoa(int(t.Map[0])))
	for i := 1; i < len(t.Map); i++ {
		if t.Map[i] != t.Map[i-1] {
			b.WriteString(" " + string([]byte{byte(i)}) + strconv.Itoa(int(t.Map[i])))
		}
	}
	b.WriteByte(':')
	for s, done := range t.Done {
		sep := " "
		for _, to := range t.Next[s*t.Classes : (s+1)*t.Classes] {
			b.WriteString(sep + strconv.Itoa(int(to)))
			sep = ","
		}
		if done {
			b.WriteByte('!')
		}
	}
	return b.String()
}

// TableOf gives a table whose states are told as ToldTable tells them; the byte b has the class b mod the number of classes.
func TableOf(states string) api.Table {
	var x api.Table
	for _, row := range strings.Fields(states) {
		leads, done := strings.CutSuffix(row, "!")
		x.Done = append(x.Done, done)
		x.Classes = 0
		for _, to := range strings.Split(leads, ",") {
			k, _ := strconv.Atoi(to)
			x.Next = append(x.Next, uint16(k))
			x.Classes++
		}
	}
	for b := range x.Map {
		x.Map[b] = byte(b % x.Classes)
	}
	return x
}

// WrongTables gives tables that aren't right, for all reasons, by names.
func WrongTables() map[string]api.Table {
	out := map[string]api.Table{
		"nothing":            {},
		"no states":          {Classes: 1},
		"no classes":         {Done: make([]bool, 3)},
		"too many states":    {Classes: 1, Next: make([]uint16, 301), Done: make([]bool, 301)},
		"too many classes":   {Classes: 257, Next: make([]uint16, 257), Done: make([]bool, 1)},
		"as many as 0":       {Classes: 1 << 62, Done: make([]bool, 4)},
		"as many as 256":     {Classes: 1<<62 + 64, Next: make([]uint16, 256), Done: make([]bool, 4)},
		"less than 0":        {Classes: -1 << 62, Done: make([]bool, 4)},
		"states and no rows": {Classes: 2, Done: make([]bool, 3)},
		"rows and no states": {Classes: 2, Next: make([]uint16, 6)},
	}
	add := func(name string, number int, change func(x *api.Table)) {
		x := TableOf("1,2 2,0! 1,1")
		change(&x)
		out[name+" "+strconv.Itoa(number)] = x
	}
	for _, n := range []int{math.MinInt, -2, -1, 0, 1, 3, 6, 256, 257, math.MaxInt} {
		add("Classes", n, func(x *api.Table) { x.Classes = n })
	}
	for b := range 256 {
		add("the class 2 of", b, func(x *api.Table) { x.Map[b] = 2 })
		add("the class 255 of", b, func(x *api.Table) { x.Map[b] = 255 })
	}
	for i := range 6 {
		for _, to := range []uint16{3, 300, 65535} {
			add("to "+strconv.Itoa(int(to))+" leads", i, func(x *api.Table) { x.Next[i] = to })
		}
		add("Next cut at", i, func(x *api.Table) { x.Next = x.Next[:i] })
	}
	for n := range 3 {
		add("Done cut at", n, func(x *api.Table) { x.Done = x.Done[:n] })
	}
	add("Next longer by", 1, func(x *api.Table) { x.Next = append(x.Next, 0) })
	add("Next longer by", 2, func(x *api.Table) { x.Next = append(x.Next, 0, 0) })
	add("Done longer by", 1, func(x *api.Table) { x.Done = append(x.Done, false) })
	return out
}

// Run gives the numbers of bytes behind which a table that is right is Done.
func Run(x api.Table, w []byte) []int {
	var out []int
	s := 0
	for i := range len(w) + 1 {
		if x.Done[s] {
			out = append(out, i)
		}
		if i < len(w) {
			s = int(x.Next[s*x.Classes+int(x.Map[w[i]])])
		}
	}
	return out
}

// SameTable tells whether two tables are one; a list without elements is a nil list.
func SameTable(a, b api.Table) bool {
	return a.Map == b.Map && a.Classes == b.Classes && slices.Equal(a.Next, b.Next) && slices.Equal(a.Done, b.Done)
}

// RoomyTable gives a table of other memory, with spare room in each list.
func RoomyTable(t api.Table) api.Table {
	t.Next, t.Done = roomy(t.Next), roomy(t.Done)
	return t
}

// IdenticalTables tells whether two tables are one, the spare room of their lists too.
func IdenticalTables(a, b api.Table) bool {
	whole := func(t api.Table) api.Table {
		t.Next, t.Done = t.Next[:cap(t.Next)], t.Done[:cap(t.Done)]
		return t
	}
	return SameTable(a, b) && SameTable(whole(a), whole(b))
}

// ApartTables tells whether no lists of some tables have memory in common, their spare room neither.
func ApartTables(tables ...api.Table) bool {
	var next []*uint16
	var done []*bool
	for _, t := range tables {
		next, done = append(next, slots(t.Next)...), append(done, slots(t.Done)...)
	}
	return once(next) && once(done)
}
