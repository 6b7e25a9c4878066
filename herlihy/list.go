package herlihy

import (
	"slices"

	"ferryman/api"
	"ferryman/machine"
	"ferryman/objs"
)

// beginning is the node ahead of all operations, at place 0; in a cell its number says that there is no node.
const beginning = 0

// list is what the processes share. All of it that changes under a process's eyes stands in cells; a node's operation is told ahead of its number, and stays.
type list struct {
	procs     int
	memory    *machine.Machine
	announced int // from this cell on: each process's last node
	heads     int // from this cell on: how far each process has come, as a node of the list
	nodes     []node
	// What comes of a place hangs on the list alone, so that what is worked out once, when the place is decided, is what each process would work out.
	log   []api.Record
	state api.State
}

// node is an operation, with two cells: the node behind it in the list, and its place there, from 1 on; 0 until that is so.
type node struct {
	proc, seq   int
	op          api.Op
	next, place int
}

func newList(start api.State, procs int) *list {
	start.L = slices.Clone(start.L)
	l := &list{procs: procs, memory: machine.New(procs), state: start}
	l.announced = l.memory.Cells(procs)
	l.heads = l.memory.Cells(procs)
	l.newNode(0, 0, api.Op{}) // the beginning
	return l
}

// newNode is the number of a new node, which is not in the list yet.
func (l *list) newNode(proc, seq int, o api.Op) int {
	next := l.memory.Cells(2)
	l.nodes = append(l.nodes, node{proc: proc, seq: seq, op: o, next: next, place: next + 1})
	return len(l.nodes) - 1
}

// takeEffect is for the one whose Swap has put a node at the list's end.
func (l *list) takeEffect(number int) {
	n := l.nodes[number]
	var resp int
	l.state, resp = objs.Step(l.state, n.op)
	l.log = append(l.log, api.Record{Index: len(l.log), Proc: n.proc, Seq: n.seq, Op: n.op, Resp: resp})
}
