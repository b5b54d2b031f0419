package engine

import (
	"riddle/api"
	"riddle/pack"
	"riddle/small"
	"riddle/subset"
)

const numberSize = 2 // bytes in which a state's number is written

// states runs a graph by states. How it is armed is laid out in its table.
type states struct {
	table api.Table
	at    int
}

// newStates gives what runs a graph by states.
func newStates(g api.Graph, mode int) (runner, api.Errno) {
	t, code := subset.Build(g, mode == Always)
	if code != api.OK {
		return nil, code
	}
	if t, code = small.Minimise(t); code != api.OK {
		return nil, code
	}
	return &states{table: t}, api.OK
}

func (s *states) kind() int {
	return States
}

func (s *states) restart() {
	s.at = 0
}

func (s *states) arm() {}

// take goes on by the table as it is: layer 16's Step would check all of it for each byte.
func (s *states) take(b byte) {
	s.at = int(s.table.Next[s.at*s.table.Classes+int(s.table.Map[b])])
}

func (s *states) isDone() bool {
	return s.table.Done[s.at]
}

func (s *states) size() int {
	return numberSize
}

// save gives the state's number.
func (s *states) save() []byte {
	var pen pack.Pen
	pen.Uint(uint64(s.at), numberSize)
	return pen.Data()
}

func (s *states) load(b []byte) bool {
	at, _ := pack.NewEye(b).Uint(numberSize)
	if at >= uint64(len(s.table.Done)) {
		return false
	}
	s.at = int(at)
	return true
}
