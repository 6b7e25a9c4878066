package nr

import "ferryman/api"

// step is one access of one cell; what it answers is what the process does next, nil if its operation is done.
type step func() step

// process is one of those who share, with what it alone knows.
type process struct {
	number  int
	shared  *shared
	replica *replica // its group's
	next    step     // as long as it is busy
	began   int      // how many steps it had done ahead of its last Invoke
	seq     int
	op      api.Op
	resp    int

	serves int        // the process for which it looks, as long as it has the lock
	record api.Record // what that one asks for
}

// begin gives it an operation to do.
func (p *process) begin(o api.Op) {
	p.seq++
	p.op = o
	p.began = p.shared.memory.Steps(p.number)
	p.next = p.ask
}

// ask comes first, so that whoever takes the lock behind it does the operation.
func (p *process) ask() step {
	p.write(p.shared.asked+p.number, p.seq)
	p.shared.ops[p.number] = p.op
	return p.takeLock
}

// takeLock and readAnswer are where it waits for others of its group, but for two who have the lock at most: the first one may have looked at what it asks for ahead of ask, the second one does it.
func (p *process) takeLock() step {
	if !p.swap(p.replica.lock, free, 1+p.number) {
		return p.readAnswer
	}
	p.serves = p.replica.first
	return p.readAsked
}

// readAnswer is the only end: who has the lock is busy until it has left it, as others would wait for ever for one who is not.
func (p *process) readAnswer() step {
	if p.read(p.shared.answered+p.number) != p.seq {
		return p.takeLock
	}
	p.resp = p.shared.resps[p.number]
	return nil
}

// readAsked is of each process of the group, this one too.
func (p *process) readAsked() step {
	seq := p.read(p.shared.asked + p.serves)
	if seq == p.replica.last[p.serves] {
		return p.serveNext()
	}
	p.record = api.Record{Proc: p.serves, Seq: seq, Op: p.shared.ops[p.serves]}
	return p.follow
}

// follow lets the replica do what other groups wrote, up to the log's end; what its own group writes it does at once.
func (p *process) follow() step {
	at := p.replica.followed
	if p.read(p.shared.places+at) == empty {
		return p.writeRecord
	}
	p.replica.do(p.shared.log[at])
	return p.follow
}

// writeRecord is where an operation takes effect: only one Swap of all groups is done at a place.
func (p *process) writeRecord() step {
	at := p.replica.followed
	if !p.swap(p.shared.places+at, empty, written) {
		return p.follow
	}
	p.record.Index = at
	p.record.Resp = p.replica.do(p.record)
	p.shared.takeEffect(p.record)
	return p.answer
}

func (p *process) answer() step {
	p.write(p.shared.answered+p.serves, p.record.Seq)
	p.shared.resps[p.serves] = p.record.Resp
	return p.serveNext()
}

// serveNext is no step.
func (p *process) serveNext() step {
	p.serves++
	if p.serves < p.replica.end {
		return p.readAsked
	}
	return p.leaveLock
}

func (p *process) leaveLock() step {
	p.write(p.replica.lock, free)
	return p.readAnswer
}

func (p *process) read(cell int) int { return p.shared.memory.Read(p.number, cell) }

func (p *process) write(cell, n int) { p.shared.memory.Write(p.number, cell, n) }

func (p *process) swap(cell, old, new int) bool {
	return p.shared.memory.Swap(p.number, cell, old, new)
}
