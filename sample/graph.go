package sample

import (
	"math"
	"slices"
	"strconv"
	"strings"

	"riddle/api"
	"riddle/posn"
)

// GraphOf gives the graph of a pattern, by layers 5 and 11. It panics where there is none.
func GraphOf(pattern string) api.Graph {
	g, code := posn.Build(TermOf(pattern))
	if code != api.OK {
		panic(pattern)
	}
	return g
}

// Graph gives a right graph of so many positions; pick chooses a number below another one. Its sets are few, and some positions go on as others do.
func Graph(pick func(n int) int, positions int) api.Graph {
	g := api.Graph{First: some(pick, positions), Last: some(pick, positions), Empty: pick(2) == 0}
	for p := range positions {
		g.Sets = append(g.Sets, Class([]string{"", "a", "b", "ab", "\x00\xff"}[pick(5)]))
		g.Follow = append(g.Follow, some(pick, positions))
		if p > 0 && pick(2) == 0 {
			like := pick(p)
			g.Sets[p], g.Follow[p] = g.Sets[like], slices.Clone(g.Follow[like])
		}
	}
	return g
}

// WrongGraphs gives graphs that aren't right, for all reasons.
func WrongGraphs() []api.Graph {
	right := func() api.Graph {
		return api.Graph{Sets: make([]api.Class, 3), First: []int{0, 2}, Last: []int{1, 2}, Follow: [][]int{{0, 1, 2}, nil, {1}}, Empty: true}
	}
	var out []api.Graph
	for _, list := range [][]int{{-1}, {3}, {0, 0}, {1, 0}, {0, 1, 1}, {0, 1, 2, 3}, {0, 2, 1}, {-1, 0}, {math.MinInt}, {math.MaxInt}, {0, math.MinInt}, {0, 1, math.MaxInt}, {2, 2, 2}} {
		one, two, three, four := right(), right(), right(), right()
		one.First, two.Last, three.Follow[0], four.Follow[2] = list, list, list, list
		out = append(out, one, two, three, four)
	}
	short, long, more := right(), right(), right()
	short.Follow, long.Follow, more.Sets = short.Follow[:2], append(long.Follow, nil), make([]api.Class, 4)
	out = append(out, short, long, more, api.Graph{First: []int{0}}, api.Graph{Last: []int{0}}, api.Graph{Sets: make([]api.Class, 1)}, api.Graph{Follow: [][]int{nil}}, api.Graph{Follow: [][]int{{0}}})
	most, least := api.MaxPositions, api.MaxPositions+1
	return append(out, api.Graph{Sets: make([]api.Class, least), Follow: make([][]int, least)}, api.Graph{Sets: make([]api.Class, most), Follow: make([][]int, most), First: []int{most}}, api.Graph{Sets: make([]api.Class, most), Follow: make([][]int, most), Last: []int{most}})
}

// some gives few or many of the numbers below a bound, rising.
func some(pick func(n int) int, bound int) []int {
	var out []int
	seldom := 1 + pick(4)
	for p := range bound {
		if pick(seldom+1) == 0 {
			out = append(out, p)
		}
	}
	return out
}

// Told gives a graph as a text: the bytes of each set, those of sets that haven't just one in angles; what may be first; last; for each position what follows; and whether it is empty.
func Told(g api.Graph) string {
	var b strings.Builder
	for _, set := range g.Sets {
		bytes := ""
		for i := range 256 {
			if has(set, byte(i)) {
				bytes += string([]byte{byte(i)})
			}
		}
		if len(bytes) != 1 {
			bytes = "<" + bytes + ">"
		}
		b.WriteString(bytes)
	}
	for _, list := range append([][]int{g.First, g.Last}, g.Follow...) {
		b.WriteByte(' ')
		for i, p := range list {
			if i > 0 {
				b.WriteByte(',')
			}
			b.WriteString(strconv.Itoa(p))
		}
		if len(list) == 0 {
			b.WriteByte('-')
		}
	}
	if g.Empty {
		b.WriteString(" empty")
	}
	return b.String()
}

// SameGraph tells whether two graphs are one; a list without elements is a nil list.
func SameGraph(a, b api.Graph) bool {
	return a.Empty == b.Empty && slices.Equal(a.Sets, b.Sets) && slices.Equal(a.First, b.First) && slices.Equal(a.Last, b.Last) && slices.EqualFunc(a.Follow, b.Follow, slices.Equal[[]int])
}

// RoomyGraph gives a graph of other memory, with spare room in each list.
func RoomyGraph(g api.Graph) api.Graph {
	out := api.Graph{Sets: roomy(g.Sets), First: roomy(g.First), Last: roomy(g.Last), Follow: roomy(g.Follow), Empty: g.Empty}
	for p, list := range g.Follow {
		out.Follow[p] = roomy(list)
	}
	return out
}

// roomy gives a copy of a list, with spare room.
func roomy[T any](list []T) []T {
	return append(make([]T, 0, len(list)+2), list...)
}

// whole gives a graph in which the spare room of the lists counts, too.
func whole(g api.Graph) api.Graph {
	g.Sets, g.First, g.Last = g.Sets[:cap(g.Sets)], g.First[:cap(g.First)], g.Last[:cap(g.Last)]
	var follow [][]int
	for _, list := range g.Follow[:cap(g.Follow)] {
		follow = append(follow, list[:cap(list)])
	}
	g.Follow = follow
	return g
}

// IdenticalGraphs tells whether two graphs are one, the spare room of their lists too.
func IdenticalGraphs(a, b api.Graph) bool {
	return SameGraph(a, b) && SameGraph(whole(a), whole(b))
}

// ApartGraphs tells whether no lists of some graphs have memory in common, their spare room neither.
func ApartGraphs(graphs ...api.Graph) bool {
	var sets []*api.Class
	var numbers []*int
	var lists []*[]int
	for _, g := range graphs {
		sets, lists = append(sets, slots(g.Sets)...), append(lists, slots(g.Follow)...)
		numbers = append(append(numbers, slots(g.First)...), slots(g.Last)...)
		for _, list := range g.Follow[:cap(g.Follow)] {
			numbers = append(numbers, slots(list)...)
		}
	}
	return once(sets) && once(numbers) && once(lists)
}

// slots gives the places of a list's elements, and of its spare room.
func slots[T any](list []T) []*T {
	var out []*T
	list = list[:cap(list)]
	for i := range list {
		out = append(out, &list[i])
	}
	return out
}

// once tells whether each place is there once.
func once[T any](list []*T) bool {
	met := map[*T]struct{}{}
	for _, slot := range list {
		met[slot] = struct{}{}
	}
	return len(met) == len(list)
}
