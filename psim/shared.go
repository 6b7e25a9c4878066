package psim

import (
	"slices"

	"ferryman/api"
	"ferryman/machine"
	"ferryman/objs"
)

// shared is what the processes share. A cell has a number only: what that stands for is beside it, and becomes another one in the step in which the cell does.
type shared struct {
	procs     int
	memory    *machine.Machine
	count     int      // this cell: how many operations have taken effect, which stands for object
	announced int      // from this cell on: the Seq of each process's last operation, which stands for that one of ops
	object    object   // never changed, but another one may come in its place
	ops       []api.Op // of each process
	log       []api.Record
}

// object is a copy of the object, which is one process's own until that swaps it in.
type object struct {
	state api.State
	last  []answer     // of each process
	fresh []api.Record // what was done since it was made, without Index
}

// answer is which operation of a process was its last one that was done, and what came of it.
type answer struct{ seq, resp int }

func newShared(start api.State, procs int) *shared {
	start.L = slices.Clone(start.L)
	s := &shared{procs: procs, memory: machine.New(procs), ops: make([]api.Op, procs)}
	s.count = s.memory.Cells(1)
	s.announced = s.memory.Cells(procs)
	s.object = object{state: start, last: make([]answer, procs)}
	return s
}

// takeEffect is for the one whose Swap was done: its copy is the object from now on.
func (s *shared) takeEffect(o object) {
	for _, r := range o.fresh {
		r.Index = len(s.log)
		s.log = append(s.log, r)
	}
	s.object = o
}

// another is a copy; the numbers of its state need none, as objs makes new ones.
func (o object) another() object { return object{state: o.state, last: slices.Clone(o.last)} }

func (o *object) do(proc, seq int, op api.Op) {
	var resp int
	o.state, resp = objs.Step(o.state, op)
	o.last[proc] = answer{seq, resp}
	o.fresh = append(o.fresh, api.Record{Proc: proc, Seq: seq, Op: op, Resp: resp})
}
