package store

import (
	"fmt"
	"math/rand/v2"
	"slices"
	"strings"
	"testing"

	"ferryman/api"
	"ferryman/block"
	"ferryman/crc"
	"ferryman/files"
	"ferryman/frame"
	"ferryman/num"
	"ferryman/objs"
	"ferryman/snapshot"
)

const (
	topNumber = 1<<62 - 1 // of Index and Seq
	topName   = 1<<20 - 1
	muchRoom  = 1 << 24
)

func put(n int) string { return string(num.Put(nil, n)) }

// framed is the frame of data, by the chapter's words.
func framed(data string) string {
	text := put(len(data)) + data
	return text + string(num.Fixed32(crc.Sum([]byte(text))))
}

// headOf is a head's frame, also of one that may not be.
func headOf(version, kind, first int) string {
	return framed("\x6c" + put(version) + put(kind) + put(first))
}

// blockOf is the frame of one block.
func blockOf(l ...api.Record) string {
	b, err := block.Encode(l)
	if err != api.OK {
		panic("no block")
	}
	return framed(string(b))
}

// segmentOf is a segment's bytes, each list in a block of its own.
func segmentOf(kind, first int, blocks ...[]api.Record) string {
	out := headOf(3, kind, first)
	for _, l := range blocks {
		out += blockOf(l...)
	}
	return out
}

// checkpointOf is a checkpoint's bytes.
func checkpointOf(s api.Snapshot) string {
	b, err := snapshot.Encode(s)
	if err != api.OK {
		panic("no snapshot")
	}
	return string(b)
}

// adds are records of a counter, from an index on: the one at index i adds i + 1.
func adds(from, count int) []api.Record {
	var out []api.Record
	for i := from; i < from+count; i++ {
		out = append(out, api.Record{Index: i, Proc: i % 3, Seq: i + 1, Op: api.Op{Code: api.Add, A: i + 1}, Resp: i - 1})
	}
	return out
}

// madeOf is what records, from index 0 on, make of an object.
func madeOf(kind int, l []api.Record) api.Snapshot {
	out := api.Snapshot{State: objs.Start(kind)}
	table := map[int]api.Entry{}
	for _, r := range l {
		var resp int
		out.State, resp = objs.Step(out.State, r.Op)
		out.Index++
		table[r.Proc] = api.Entry{Proc: r.Proc, Seq: r.Seq, Resp: resp}
	}
	for proc := range 65 {
		if e, there := table[proc]; there {
			out.Table = append(out.Table, e)
		}
	}
	return out
}

// plainSegment is a segment of the plain store's log.
type plainSegment struct {
	name, first int
	records     []api.Record
}

func (p plainSegment) end() int { return p.first + len(p.records) }

// plainStore is the chapter's words: all but the segments, the bases and two numbers is worked out whenever it is asked for.
type plainStore struct {
	d         *files.Disk
	kind      int
	bases     []api.Snapshot
	log       []plainSegment
	synced    int
	isCurrent bool // the last segment is Current
	isKept    bool // its name is
}

// plainNames are the names of d that are even, or odd, from least on.
func plainNames(d *files.Disk, least int) []int {
	var out []int
	for _, name := range d.Names() {
		if name >= least && name%2 == least%2 {
			out = append(out, name)
		}
	}
	return out
}

// plainHas is the words' "What a segment has"; -1 as first, if it has nothing.
func plainHas(b []byte, kind, name int) plainSegment {
	nothing := plainSegment{first: -1}
	var parts []string
	for {
		data, size, err := frame.Decode(b)
		if err != api.OK {
			break
		}
		parts, b = append(parts, string(data)), b[size:]
	}
	if len(parts) == 0 {
		return nothing
	}
	left, isHead := strings.CutPrefix(parts[0], "\x6c"+put(3)+put(kind))
	first, size := num.Get([]byte(left))
	if !isHead || size == 0 || size != len(left) {
		return nothing
	}
	out := plainSegment{name: name, first: first}
	for _, data := range parts[1:] {
		l, err := block.Decode([]byte(data))
		if err != api.OK || l[0].Index != out.end() {
			return out
		}
		out.records = append(out.records, l...)
	}
	return out
}

func plainOpen(d *files.Disk, kind int) (*plainStore, api.Errno) {
	if kind < 0 || kind > 5 {
		return nil, api.ErrArg
	}
	if !d.On() {
		return nil, api.ErrDown
	}
	p := &plainStore{d: d, kind: kind, bases: []api.Snapshot{{State: objs.Start(kind)}}}
	for _, name := range plainNames(d, 3) {
		b, _ := d.Read(name)
		if s, err := snapshot.Decode(b); err == api.OK && s.State.Kind == kind {
			p.bases = append(p.bases, s)
		}
	}
	for _, name := range plainNames(d, 2) {
		b, _ := d.Read(name)
		one := plainHas(b, kind, name)
		if one.first >= 0 && (len(p.log) == 0 || one.first == p.Next()) {
			p.log = append(p.log, one)
		}
	}
	isBad := len(p.log) > 0 && (p.First() > p.base().Index || p.Next() < p.base().Index)
	if !isBad {
		_, err := snapshot.Take(p.base(), p.behindBase())
		isBad = err != api.OK
	}
	if isBad {
		p.log = nil
	}
	p.synced = p.Next()
	return p, api.OK
}

func (p *plainStore) base() api.Snapshot { return p.bases[len(p.bases)-1] }

// behindBase is the records of the log from Base's Index on.
func (p *plainStore) behindBase() []api.Record {
	var out []api.Record
	for _, one := range p.log {
		for _, r := range one.records {
			if r.Index >= p.base().Index {
				out = append(out, r)
			}
		}
	}
	return out
}

func (p *plainStore) Next() int {
	if len(p.log) == 0 {
		return p.base().Index
	}
	return p.log[len(p.log)-1].end()
}

func (p *plainStore) Synced() int { return p.synced }

func (p *plainStore) First() int {
	if len(p.log) == 0 {
		return p.base().Index
	}
	return p.log[0].first
}

func (p *plainStore) Now() api.Snapshot {
	now, err := snapshot.Take(p.base(), p.behindBase())
	if err != api.OK {
		panic("records that are not taken")
	}
	return now
}

func (p *plainStore) Base() api.Snapshot    { return p.base() }
func (p *plainStore) Bases() []api.Snapshot { return p.bases }

func (p *plainStore) Records(from, to int) ([]api.Record, api.Errno) {
	if from < 0 || from > to || to > p.Next() {
		return nil, api.ErrOutOfRange
	}
	if from < p.First() {
		return nil, api.ErrCompacted
	}
	var out []api.Record
	for _, one := range p.log {
		for _, r := range one.records {
			if r.Index >= from && r.Index < to {
				out = append(out, r)
			}
		}
	}
	return out, api.OK
}

// plainNextName is two more than the greatest, or least.
func (p *plainStore) plainNextName(least int) int {
	out := least
	for _, name := range plainNames(p.d, least) {
		out = name + 2
	}
	return out
}

func (p *plainStore) Append(l []api.Record) api.Errno {
	if !block.Fits(l) {
		return api.ErrArg
	}
	if l[0].Index != p.Next() {
		return api.ErrGap
	}
	if p.isCurrent {
		current := &p.log[len(p.log)-1]
		err := p.d.Append(current.name, []byte(blockOf(l...)))
		if err == api.OK {
			current.records = append(current.records, l...)
		}
		return err
	}
	one := plainSegment{name: p.plainNextName(2), first: p.Next(), records: slices.Clone(l)}
	err := p.d.Append(one.name, []byte(segmentOf(p.kind, one.first, l)))
	if err == api.OK {
		p.log = append(p.log, one)
		p.isCurrent, p.isKept = true, false
	}
	return err
}

func (p *plainStore) Sync() api.Errno {
	if p.isCurrent {
		if err := p.d.Sync(p.log[len(p.log)-1].name); err != api.OK {
			return err
		}
		if !p.isKept {
			if err := p.d.SyncDir(); err != api.OK {
				return err
			}
			p.isKept = true
		}
	}
	p.synced = p.Next()
	return api.OK
}

func (p *plainStore) Rotate() api.Errno {
	err := p.Sync()
	if err == api.OK {
		p.isCurrent = false
	}
	return err
}

func (p *plainStore) Checkpoint() api.Errno {
	if err := p.Sync(); err != api.OK {
		return err
	}
	now := p.Now()
	if !snapshot.May(now) {
		return api.ErrArg
	}
	if slices.Contains(p.d.Names(), 1) {
		if err := p.d.Remove(1); err != api.OK {
			return err
		}
	}
	if err := p.d.Append(1, []byte(checkpointOf(now))); err != api.OK {
		return err
	}
	if err := p.d.Sync(1); err != api.OK {
		return err
	}
	if err := p.d.Rename(1, p.plainNextName(3)); err != api.OK {
		return err
	}
	if err := p.d.SyncDir(); err != api.OK {
		return err
	}
	p.bases = append(p.bases, now)
	return api.OK
}

func (p *plainStore) Retain() api.Errno {
	var left []plainSegment
	for _, one := range p.log {
		// A segment is a name: one that a loss of power took may have Current's, if the store is used on behind it.
		isCurrent := p.isCurrent && one.name == p.log[len(p.log)-1].name
		if isCurrent || one.end() > p.base().Index {
			left = append(left, one)
			continue
		}
		if err := p.d.Remove(one.name); err != api.OK {
			return err
		}
	}
	if err := p.d.SyncDir(); err != api.OK {
		return err
	}
	p.isKept = true
	p.log = left
	return api.OK
}

// keeper is what both the program's store and the plain one are.
type keeper interface {
	Append(l []api.Record) api.Errno
	Sync() api.Errno
	Rotate() api.Errno
	Checkpoint() api.Errno
	Retain() api.Errno
	Next() int
	Synced() int
	First() int
	Now() api.Snapshot
	Base() api.Snapshot
	Records(from, to int) ([]api.Record, api.Errno)
	Bases() []api.Snapshot
}

// side is a disk, and a store on it: the program's or the plain one.
type side struct {
	d    *files.Disk
	s    keeper
	open func(d *files.Disk, kind int) (keeper, api.Errno)
}

// newSides are the program's side and the plain one, each without a store so far.
func newSides(room int) [2]*side {
	program := func(d *files.Disk, kind int) (keeper, api.Errno) {
		s, err := Open(d, kind)
		if s == nil {
			return nil, err // not an interface that holds nil
		}
		return s, err
	}
	plain := func(d *files.Disk, kind int) (keeper, api.Errno) {
		s, err := plainOpen(d, kind)
		if s == nil {
			return nil, err
		}
		return s, err
	}
	return [2]*side{{d: files.New(room), open: program}, {d: files.New(room), open: plain}}
}

// call is one that a script makes of a side, and its text.
type call struct {
	text    string
	of      func(x *side) string
	isQuiet bool // nobody looks behind it
}

// quietly is a script that another test looks at.
func quietly(script []call) []call {
	out := slices.Clone(script)
	for i := range out {
		out[i].isQuiet = true
	}
	return out
}

func told(err api.Errno) string { return fmt.Sprintf("error %d", err) }

// opens is Open; the store that there was is there no more, whatever comes of it.
func opens(kind int) call {
	return call{text: fmt.Sprintf("Open(%d)", kind), of: func(x *side) string {
		s, err := x.open(x.d, kind)
		x.s = s
		return fmt.Sprintf("a store: %t, error %d", s != nil, err)
	}}
}

// stored is a call of a store, if there is one.
func stored(text string, of func(s keeper) api.Errno) call {
	return call{text: text, of: func(x *side) string {
		if x.s == nil {
			return "no store"
		}
		return told(of(x.s))
	}}
}

func appends(l ...api.Record) call {
	text := fmt.Sprintf("Append of %d records", len(l))
	if len(l) > 0 {
		text += fmt.Sprintf(" from %d on", l[0].Index)
	}
	return stored(text, func(s keeper) api.Errno { return s.Append(l) })
}

// goesOn is Append of so many records from Next on, of an object of that kind.
func goesOn(kind, count int) call {
	return stored(fmt.Sprintf("Append of %d more", count), func(s keeper) api.Errno {
		return s.Append(records(kind, s.Next(), count))
	})
}

func syncs() call       { return stored("Sync()", keeper.Sync) }
func rotates() call     { return stored("Rotate()", keeper.Rotate) }
func checkpoints() call { return stored("Checkpoint()", keeper.Checkpoint) }
func retains() call     { return stored("Retain()", keeper.Retain) }

func cuts(n int) call {
	return call{text: fmt.Sprintf("Cut(%d)", n), of: func(x *side) string { x.d.Cut(n); return "" }}
}

func crashes(names int, keep ...int) call {
	return call{text: fmt.Sprintf("Crash(%d, %v)", names, keep), of: func(x *side) string { x.d.Crash(names, keep); return "" }}
}

// writes puts a file on the disk, kept, that the store did not.
func writes(name int, b string) call {
	return call{text: fmt.Sprintf("the file %d: %.40q", name, b), of: func(x *side) string {
		errs := []api.Errno{x.d.Append(name, []byte(b)), x.d.Sync(name), x.d.SyncDir()}
		return fmt.Sprint(errs)
	}}
}

func removes(name int) call {
	return call{text: fmt.Sprintf("Remove(%d)", name), of: func(x *side) string { return told(x.d.Remove(name)) }}
}

// snapText is a snapshot as text, in which a list without elements is the same as none (R6).
func snapText(s api.Snapshot) string {
	return fmt.Sprintf("%d %d%v%t%d %v", s.Index, s.State.Kind, s.State.L, s.State.Sealed, s.State.To, s.Table)
}

// lookAtStore is all that can be seen of a store.
func lookAtStore(s keeper) string {
	if s == nil {
		return "no store"
	}
	var out strings.Builder
	fmt.Fprintf(&out, "next %d, synced %d, first %d, now %s, base %s", s.Next(), s.Synced(), s.First(), snapText(s.Now()), snapText(s.Base()))
	for _, base := range s.Bases() {
		out.WriteString("; " + snapText(base))
	}
	first, base, next := s.First(), s.Base().Index, s.Next()
	for _, part := range [][2]int{{-1, next}, {0, 0}, {0, next}, {first - 1, next}, {first, next}, {first, base}, {base, next}, {next - 1, next}, {next, next}, {next, first}, {first, next + 1}} {
		l, err := s.Records(part[0], part[1])
		fmt.Fprintf(&out, "; Records %v: %v, error %d", part, l, err)
	}
	return out.String()
}

// lookAtDisk is all that can be seen of a disk.
func lookAtDisk(d *files.Disk) string {
	var out strings.Builder
	fmt.Fprintf(&out, "used %d, on %t", d.Used(), d.On())
	for _, name := range d.Names() {
		b, err := d.Read(name)
		fmt.Fprintf(&out, "; %d: %x, error %d", name, b, err)
	}
	return out.String()
}

// wantAsTold makes the calls of a store and of the plain one, each on a disk of its own, and asks that nothing to be seen is another one behind any of them. It answers the program's side.
func wantAsTold(t *testing.T, room int, script ...call) *side {
	t.Helper()
	sides := newSides(room)
	for i, c := range script {
		got, want := c.of(sides[0]), c.of(sides[1])
		if got != want {
			t.Fatalf("room %d, %s:\n%s, want\n%s", room, textOf(script[:i+1]), got, want)
		}
		if c.isQuiet {
			continue
		}
		if got, want := lookAtStore(sides[0].s), lookAtStore(sides[1].s); got != want {
			t.Fatalf("room %d, %s:\n%s, want\n%s", room, textOf(script[:i+1]), got, want)
		}
		if got, want := lookAtDisk(sides[0].d), lookAtDisk(sides[1].d); got != want {
			t.Fatalf("room %d, %s:\n%s, want\n%s", room, textOf(script[:i+1]), got, want)
		}
	}
	return sides[0]
}

func textOf(script []call) string {
	var out []string
	for _, c := range script {
		out = append(out, c.text)
	}
	return strings.Join(out, ", ")
}

// records are ordinary ones of a kind, from an index on; which they are hangs on the index alone.
func records(kind, from, count int) []api.Record {
	codes := [][]int{
		{api.Add, api.Get}, {api.Write, api.Get}, {api.Push, api.Push, api.Pop}, {api.Push, api.Push, api.Pop},
		{api.Put, api.Put, api.Delete, api.Get}, {api.Deposit, api.Deposit, api.Move, api.Get},
	}[kind]
	var out []api.Record
	for i := from; i < from+count; i++ {
		chance := rand.New(rand.NewPCG(uint64(kind), uint64(i)))
		op := api.Op{Code: codes[chance.IntN(len(codes))], A: chance.IntN(9), B: chance.IntN(50)}
		if op.Code == api.Move {
			op.A = 256*chance.IntN(9) + chance.IntN(9)
		}
		out = append(out, api.Record{Index: i, Proc: chance.IntN(5), Seq: i, Op: op, Resp: chance.IntN(100)})
	}
	return out
}
