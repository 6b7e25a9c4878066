package herlihy

import "ferryman/api"

// step is one access of one cell; what it answers is what the process does next, nil if its operation is done.
type step func() step

// process is one of those who share, with what it alone knows.
type process struct {
	number int
	list   *list
	next   step // as long as it is busy
	began  int  // how many steps it had done ahead of its last Invoke
	seq    int
	resp   int

	own    int // the node of its operation
	at     int // the last node of the list that it knows of,
	place  int // and that one's place
	asked  int // the process whose head it looks at
	other  int // a node that it has read of
	wanted int // the node that it wants behind the one at which it is
}

// begin gives it an operation to do.
func (p *process) begin(o api.Op) {
	p.seq++
	p.began = p.list.memory.Steps(p.number)
	p.own = p.list.newNode(p.number, p.seq, o)
	p.next = p.announce
}

// announce comes first, so that all who go on behind it help.
func (p *process) announce() step {
	p.write(p.list.announced+p.number, p.own)
	p.asked = 0
	return p.readHead
}

// readHead and readHeadsPlace find the one who has come the furthest: the list is at most one node longer.
func (p *process) readHead() step {
	p.other = p.read(p.list.heads + p.asked)
	return p.readHeadsPlace
}

func (p *process) readHeadsPlace() step {
	if place := p.read(p.list.nodes[p.other].place); place > p.place {
		p.at, p.place = p.other, place
	}
	p.asked++
	if p.asked < p.list.procs {
		return p.readHead
	}
	return p.readOwnPlace
}

// readOwnPlace is asked anew at each place, as others may have put the operation into the list.
func (p *process) readOwnPlace() step {
	place := p.read(p.list.nodes[p.own].place)
	if place == 0 {
		return p.readTurn
	}
	p.resp = p.list.log[place-1].Resp
	return nil
}

// readTurn and readTurnsPlace let the process go first whose turn it is, if it has something to do: this is why nobody waits for ever.
func (p *process) readTurn() step {
	p.wanted = p.own
	p.other = p.read(p.list.announced + p.place%p.list.procs)
	if p.other == beginning {
		return p.decide
	}
	return p.readTurnsPlace
}

func (p *process) readTurnsPlace() step {
	if p.read(p.list.nodes[p.other].place) == 0 {
		p.wanted = p.other
	}
	return p.decide
}

// decide is where an operation takes effect: only one Swap of all who stand here is done.
func (p *process) decide() step {
	if !p.list.memory.Swap(p.number, p.list.nodes[p.at].next, beginning, p.wanted) {
		return p.readNext
	}
	p.list.takeEffect(p.wanted)
	p.at = p.wanted
	return p.tellPlace
}

func (p *process) readNext() step {
	p.at = p.read(p.list.nodes[p.at].next)
	return p.tellPlace
}

// tellPlace comes ahead of tellHead, so that whoever finds a node by a head knows its place, and those of all ahead of it.
func (p *process) tellPlace() step {
	p.place++
	p.write(p.list.nodes[p.at].place, p.place)
	return p.tellHead
}

func (p *process) tellHead() step {
	p.write(p.list.heads+p.number, p.at)
	return p.readOwnPlace
}

func (p *process) read(cell int) int { return p.list.memory.Read(p.number, cell) }

func (p *process) write(cell, n int) { p.list.memory.Write(p.number, cell, n) }
