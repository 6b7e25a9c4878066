package psim

import "ferryman/api"

// step is one access of one cell; what it answers is what the process does next, nil if its operation is done.
type step func() step

// process is one of those who share, with what it alone knows.
type process struct {
	number int
	shared *shared
	next   step // as long as it is busy
	began  int  // how many steps it had done ahead of its last Invoke
	seq    int
	op     api.Op
	resp   int

	from  int    // how many operations had taken effect when it made its copy
	mine  object // its copy, with what it has found announced
	asked int    // the process at whose announcement it looks
}

// begin gives it an operation to do.
func (p *process) begin(o api.Op) {
	p.seq++
	p.op = o
	p.began = p.shared.memory.Steps(p.number)
	p.next = p.announce
}

// announce comes first, so that all who make a copy behind it help.
func (p *process) announce() step {
	p.shared.memory.Write(p.number, p.shared.announced+p.number, p.seq)
	p.shared.ops[p.number] = p.op
	return p.copyObject
}

// copyObject comes three times at most, so that nobody waits. A Swap that is not done tells that another one's was done behind the copy; the second of those who were faster made its copy behind the first one's Swap, found the announcement, and did the operation.
func (p *process) copyObject() step {
	p.from = p.read(p.shared.count)
	p.mine = p.shared.object.another()
	if p.mine.last[p.number].seq == p.seq {
		return p.end()
	}
	p.asked = 0
	return p.readAnnounced
}

// readAnnounced is of each process, this one too.
func (p *process) readAnnounced() step {
	seq := p.read(p.shared.announced + p.asked)
	if seq > p.mine.last[p.asked].seq {
		p.mine.do(p.asked, seq, p.shared.ops[p.asked])
	}
	p.asked++
	if p.asked < p.shared.procs {
		return p.readAnnounced
	}
	return p.swapIn
}

// swapIn is where operations take effect, all those of the copy at once. It has one more than the object at least, the process's own, so that count never comes back to a number, and a Swap is done only if nothing took effect since the copy was made.
func (p *process) swapIn() step {
	count := p.from + len(p.mine.fresh)
	if !p.shared.memory.Swap(p.number, p.shared.count, p.from, count) {
		return p.copyObject
	}
	p.shared.takeEffect(p.mine)
	return p.end()
}

// end is of one whose copy knows what came of its operation.
func (p *process) end() step {
	p.resp = p.mine.last[p.number].resp
	return nil
}

func (p *process) read(cell int) int { return p.shared.memory.Read(p.number, cell) }
