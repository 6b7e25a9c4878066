package nr

import (
	"cmp"
	"slices"

	"ferryman/api"
	"ferryman/machine"
	"ferryman/objs"
)

// What the cell of a place in the log has.
const (
	empty   = 0
	written = 1
)

// free is what the cell of a lock has that nobody has; else it is 1 + the process that has it.
const free = 0

// shared is what the processes share. A cell has a number only: what that stands for is beside it, and becomes another one in the step in which the cell does.
type shared struct {
	memory   *machine.Machine
	asked    int // from this cell on: the Seq of each process's last operation, which stands for that one of ops
	answered int // from this cell on: the Seq of each process's last operation that was answered, which stands for that one of resps
	places   int // from this cell on: whether a record of log was written; there is one cell more than records
	ops      []api.Op
	resps    []int
	log      []api.Record
	replicas []*replica // of each group
}

// replica is a copy of the object that a group of processes shares: only that one of them touches it who has its lock.
type replica struct {
	lock       int // this cell
	first, end int // its processes
	followed   int // how many records of the log it has done
	state      api.State
	last       []int // the Seq of each process's last operation that it has done
}

func newShared(start api.State, procs int) *shared {
	start.L = slices.Clone(start.L)
	s := &shared{memory: machine.New(procs), ops: make([]api.Op, procs), resps: make([]int, procs)}
	s.asked = s.memory.Cells(procs)
	s.answered = s.memory.Cells(procs)
	for first := 0; first < procs; first += api.Group {
		s.replicas = append(s.replicas, &replica{
			lock: s.memory.Cells(1), first: first, end: min(first+api.Group, procs),
			state: start, last: make([]int, procs),
		})
	}
	s.places = s.memory.Cells(1)
	return s
}

// takeEffect is for the one whose Swap was done at the log's end.
func (s *shared) takeEffect(r api.Record) {
	s.log = append(s.log, r)
	s.memory.Cells(1)
}

// furthest has followed the whole log, as the replica that wrote the last record had to.
func (s *shared) furthest() *replica {
	return slices.MaxFunc(s.replicas, func(a, b *replica) int { return cmp.Compare(a.followed, b.followed) })
}

// do lets it follow the log by a record: what comes of that, which is the same for all replicas.
func (r *replica) do(of api.Record) int {
	var resp int
	r.state, resp = objs.Step(r.state, of.Op)
	r.last[of.Proc] = of.Seq
	r.followed++
	return resp
}
