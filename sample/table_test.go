package sample_test

import (
	"math/rand"
	"slices"
	"testing"

	"riddle/api"
	"riddle/sample"
)

// isRightTable tells by the document's words whether a table is right.
func isRightTable(x api.Table) bool {
	states := len(x.Done)
	right := 1 <= states && states <= 300 && 1 <= x.Classes && x.Classes <= 256 && len(x.Next) == x.Classes*states
	for _, class := range x.Map {
		right = right && int(class) < x.Classes
	}
	for _, to := range x.Next {
		right = right && int(to) < states
	}
	return right
}

// What the tests of other packages trust in: all wrong tables are wrong, and one is told by its states, and run as they lead.
func TestTables(t *testing.T) {
	for name, x := range sample.WrongTables() {
		if isRightTable(x) {
			t.Errorf("%s: %v", name, x)
		}
	}
	x := sample.TableOf("1,0,2! 1,2,1 0,0,0!")
	if got := sample.ToldTable(x); !isRightTable(x) || x.Classes != 3 || got[len(got)-len("1,0,2! 1,2,1 0,0,0!"):] != "1,0,2! 1,2,1 0,0,0!" || x.Map[0] != 0 || x.Map[4] != 1 || x.Map[255] != 0 {
		t.Errorf("%s", got)
	}
	// To 2, back to 0, to 1, once more to 1, to 2.
	if got := sample.Run(x, []byte{2, 1, 3, 5, 7}); !slices.Equal(got, []int{0, 1, 2, 5}) {
		t.Errorf("%v", got)
	}
}

// What the tests of other packages trust in: Table gives right tables of the states and classes that are asked for, of which some go on alike, and some can't be come to.
func TestTable(t *testing.T) {
	r := rand.New(rand.NewSource(1))
	alike, done, never, all := 0, 0, 0, 0
	for i := range 2000 {
		states, classes := 1+i%20, 1+i%7
		x := sample.Table(r.Intn, states, classes)
		if x.Classes != classes || len(x.Done) != states || !isRightTable(x) {
			t.Fatalf("%v", x)
		}
		for s := 1; s < states; s++ {
			all++
			if !slices.Contains(x.Next, uint16(s)) {
				never++
			}
			if x.Done[s] {
				done++
			}
			if x.Done[s] == x.Done[0] && slices.Equal(x.Next[s*classes:(s+1)*classes], x.Next[:classes]) {
				alike++
			}
		}
	}
	if alike < all/50 || never < all/10 || done < all/4 || done > all-all/4 {
		t.Errorf("of %d states %d go on as the first one does, none leads to %d, %d are done", all, alike, never, done)
	}
}

// drawn gives a table with spare room.
func drawn() api.Table {
	x := api.Table{Classes: 2, Next: []uint16{1, 0, 1, 1}, Done: []bool{false, true}}
	x.Map['a'], x.Map[255] = 1, 1
	return sample.RoomyTable(x)
}

// What the tests of other packages trust in: each field is told, and seen if it differs.
func TestToldTable(t *testing.T) {
	x := drawn()
	if got := sample.ToldTable(x); got != "2: 0 a1 b0 \xff1: 1,0 1,1!" {
		t.Errorf("%q", got)
	}
	for i, change := range []func(x *api.Table){
		func(x *api.Table) { x.Map[0] = 1 },
		func(x *api.Table) { x.Map[255] = 0 },
		func(x *api.Table) { x.Classes, x.Next = 1, x.Next[:2] },
		func(x *api.Table) { x.Next[3] = 0 },
		func(x *api.Table) { x.Done[0] = true },
		func(x *api.Table) { x.Next, x.Done = x.Next[:2], x.Done[:1] },
	} {
		other := drawn()
		if !sample.SameTable(x, other) {
			t.Fatalf("%v isn't %v", x, other)
		}
		change(&other)
		if sample.SameTable(x, other) || sample.ToldTable(x) == sample.ToldTable(other) {
			t.Errorf("%d: %v, %v", i, x, other)
		}
	}
}

// What the tests of other packages trust in: a change in the spare room is seen, and so is memory that is shared.
func TestRoomyTable(t *testing.T) {
	x := drawn()
	for i, change := range []func(x *api.Table){
		func(x *api.Table) { x.Next[:5][4] = 1 },
		func(x *api.Table) { x.Done[:3][2] = true },
	} {
		other := sample.RoomyTable(x)
		if !sample.IdenticalTables(x, other) || !sample.ApartTables(x, other) {
			t.Fatalf("%v isn't %v, or shares memory", x, other)
		}
		change(&other)
		if !sample.SameTable(x, other) || sample.IdenticalTables(x, other) {
			t.Errorf("%d: a change in the spare room isn't seen", i)
		}
	}
	one, two := sample.RoomyTable(x), sample.RoomyTable(x)
	one.Next, two.Done = x.Next[4:5], x.Done[2:3]
	if sample.ApartTables(x, one) || sample.ApartTables(two, x) || !sample.ApartTables(one, two) {
		t.Errorf("memory that is shared isn't seen, or other memory is")
	}
}
