package sample

import (
	"slices"
	"strconv"
	"strings"

	"riddle/api"
)

// Table gives a right table of so many states and classes; pick chooses a number below another one. Some states do what others do, and some can't be come to.
func Table(pick func(n int) int, states, classes int) api.Table {
	t := api.Table{Classes: classes}
	for b := range t.Map {
		t.Map[b] = byte(pick(classes))
	}
	// States of one kind do the same: they lead to states of the same kinds.
	kinds := 1 + pick(states)
	of := make([][]int, kinds)
	for s := range states {
		of[s%kinds] = append(of[s%kinds], s)
	}
	leads := make([]int, kinds*classes)
	for i := range leads {
		leads[i] = pick(kinds)
	}
	done := make([]bool, kinds)
	for i := range done {
		done[i] = pick(2) == 0
	}
	for s := range states {
		t.Done = append(t.Done, done[s%kinds])
		for class := range classes {
			alike := of[leads[s%kinds*classes+class]]
			t.Next = append(t.Next, uint16(alike[pick(len(alike))]))
		}
	}
	return t
}

// ToldTable gives a table that is right as a text: its classes; the class of the byte 0, and each byte whose class isn't that of the one ahead of it, with its class; and for each state where the classes lead, with an exclamation mark, if it is Done.
func ToldTable(t api.Table) string {
	var b strings.Builder
	b.WriteString(strconv.Itoa(t.Classes) + ": " + strconv.Itoa(int(t.Map[0])))
	for i := 1; i < len(t.Map); i++ {
		if t.Map[i] != t.Map[i-1] {
			b.WriteString(" " + string([]byte{byte(i)}) + strconv.Itoa(int(t.Map[i])))
		}
	}
	b.WriteByte(':')
	for s, done := range t.Done {
		sep := " "
		for _, to := range t.Next[s*t.Classes : (s+1)*t.Classes] {
			b.WriteString(sep + strconv.Itoa(int(to)))
			sep = ","
		}
		if done {
			b.WriteByte('!')
		}
	}
	return b.String()
}

// SameTable tells whether two tables are one; a list without elements is a nil list.
func SameTable(a, b api.Table) bool {
	return a.Map == b.Map && a.Classes == b.Classes && slices.Equal(a.Next, b.Next) && slices.Equal(a.Done, b.Done)
}

// RoomyTable gives a table of other memory, with spare room in each list.
func RoomyTable(t api.Table) api.Table {
	t.Next, t.Done = roomy(t.Next), roomy(t.Done)
	return t
}

// IdenticalTables tells whether two tables are one, the spare room of their lists too.
func IdenticalTables(a, b api.Table) bool {
	whole := func(t api.Table) api.Table {
		t.Next, t.Done = t.Next[:cap(t.Next)], t.Done[:cap(t.Done)]
		return t
	}
	return SameTable(a, b) && SameTable(whole(a), whole(b))
}

// ApartTables tells whether no lists of some tables have memory in common, their spare room neither.
func ApartTables(tables ...api.Table) bool {
	var next []*uint16
	var done []*bool
	for _, t := range tables {
		next, done = append(next, slots(t.Next)...), append(done, slots(t.Done)...)
	}
	return once(next) && once(done)
}
