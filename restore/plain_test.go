package restore

import (
	"fmt"
	"math/rand/v2"
	"slices"
	"strings"
	"testing"

	"ferryman/api"
	"ferryman/block"
	"ferryman/files"
	"ferryman/frame"
	"ferryman/num"
	"ferryman/objs"
	"ferryman/segment"
	"ferryman/snapshot"
	"ferryman/store"
)

const (
	topNumber = 1<<62 - 1 // of Index and First
	topName   = 1<<20 - 1
	muchRoom  = 1 << 24
)

func put(n int) string { return string(num.Put(nil, n)) }

func framed(data string) string {
	b, err := frame.Encode([]byte(data))
	if err != api.OK {
		panic("no frame")
	}
	return string(b)
}

func headOf(version, kind, first int) string {
	return framed("\x6c" + put(version) + put(kind) + put(first))
}

func blockOf(l []api.Record) string {
	b, err := block.Encode(l)
	if err != api.OK {
		panic("no block")
	}
	return framed(string(b))
}

// sixteens are records, sixteen by sixteen, the last ones fewer.
func sixteens(l []api.Record) [][]api.Record {
	var out [][]api.Record
	for i, r := range l {
		if i%16 == 0 {
			out = append(out, nil)
		}
		out[len(out)-1] = append(out[len(out)-1], r)
	}
	return out
}

// fileOf is the bytes of a store's segment, each list in a block of its own.
func fileOf(kind, first int, blocks ...[]api.Record) string {
	out := headOf(3, kind, first)
	for _, l := range blocks {
		out += blockOf(l)
	}
	return out
}

// exportOf is records as a segment's bytes of version 3, by the words of segment's chapter.
func exportOf(kind, first int, l []api.Record) string {
	out := headOf(3, kind, first)
	ahead, footer := 0, put(len(sixteens(l)))
	for _, part := range sixteens(l) {
		footer += put(len(out) - ahead)
		ahead = len(out)
		out += blockOf(part)
	}
	return out + framed(footer)
}

// segmentOf is records as a segment's bytes of any version.
func segmentOf(version, kind, first int, l []api.Record) []byte {
	b, err := segment.Encode(version, api.Segment{Kind: kind, First: first, Records: l})
	if err != api.OK {
		panic("no segment")
	}
	return b
}

func checkpointOf(s api.Snapshot) string {
	b, err := snapshot.Encode(s)
	if err != api.OK {
		panic("no snapshot")
	}
	return string(b)
}

// adds are records of a counter, from an index on: the one at index i adds i + 1.
func adds(from, count int) []api.Record {
	var out []api.Record
	for i := from; i < from+count; i++ {
		out = append(out, api.Record{Index: i, Proc: i % 3, Seq: i + 1, Op: api.Op{Code: api.Add, A: i + 1}, Resp: i - 1})
	}
	return out
}

// records are ordinary ones of a kind, from an index on; which they are hangs on the index alone.
func records(kind, from, count int) []api.Record {
	codes := [][]int{
		{api.Add, api.Get}, {api.Write, api.Get}, {api.Push, api.Push, api.Pop}, {api.Push, api.Push, api.Pop},
		{api.Put, api.Put, api.Delete, api.Get}, {api.Deposit, api.Deposit, api.Move, api.Get},
	}[kind]
	var out []api.Record
	for i := from; i < from+count; i++ {
		chance := rand.New(rand.NewPCG(uint64(kind), uint64(i)))
		op := api.Op{Code: codes[chance.IntN(len(codes))], A: chance.IntN(9), B: chance.IntN(50)}
		if op.Code == api.Move {
			op.A = 256*chance.IntN(9) + chance.IntN(9)
		}
		out = append(out, api.Record{Index: i, Proc: chance.IntN(5), Seq: i, Op: op, Resp: chance.IntN(100)})
	}
	return out
}

// madeOf is what records, from index 0 on, make of an object.
func madeOf(kind int, l []api.Record) api.Snapshot {
	out := api.Snapshot{State: objs.Start(kind)}
	table := map[int]api.Entry{}
	for _, r := range l {
		var resp int
		out.State, resp = objs.Step(out.State, r.Op)
		out.Index++
		table[r.Proc] = api.Entry{Proc: r.Proc, Seq: r.Seq, Resp: resp}
	}
	for proc := range 65 {
		if e, there := table[proc]; there {
			out.Table = append(out.Table, e)
		}
	}
	return out
}

// counterAt is the counter's snapshot behind so many of adds.
func counterAt(index int) api.Snapshot { return madeOf(api.Counter, adds(0, index)) }

// plainAt is P13.1, word by word.
func plainAt(s *store.Store, index int) (api.Snapshot, api.Errno) {
	if index < 0 || index > s.Next() {
		return api.Snapshot{}, api.ErrOutOfRange
	}
	greatest := -1
	for _, base := range s.Bases() {
		if base.Index <= index {
			greatest = max(greatest, base.Index)
		}
	}
	var out api.Snapshot
	for _, base := range s.Bases() {
		if base.Index == greatest {
			out = base
		}
	}
	if greatest == index {
		return out, api.OK
	}
	if greatest < s.First() {
		return api.Snapshot{}, api.ErrCompacted
	}
	for i := greatest; i < index; i++ {
		l, err := s.Records(i, i+1)
		if err != api.OK {
			panic("no record")
		}
		if out, err = snapshot.Take(out, l); err != api.OK {
			return api.Snapshot{}, err
		}
	}
	return out, api.OK
}

// plainExport is P13.2, word by word.
func plainExport(s *store.Store, kind, from, to int) (string, api.Errno) {
	l, err := s.Records(from, to)
	if err != api.OK {
		return "", err
	}
	if to-from > 4096 {
		return "", api.ErrTooLarge
	}
	if kind < 0 || kind > 5 || from > topNumber {
		return "", api.ErrArg
	}
	return exportOf(kind, from, l), api.OK
}

// plainImport is P13.3, word by word.
func plainImport(s *store.Store, kind int, b []byte) (int, api.Errno) {
	got, err := segment.Decode(b)
	if err != api.OK {
		return 0, err
	}
	if got.Kind != kind {
		return 0, api.ErrArg
	}
	next := s.Next()
	if got.First > next {
		return 0, api.ErrGap
	}
	var l []api.Record
	for _, r := range got.Records {
		if r.Index >= next {
			l = append(l, r)
		}
	}
	count := 0
	for _, part := range sixteens(l) {
		if err := s.Append(part); err != api.OK {
			return count, err
		}
		count += len(part)
	}
	return count, api.OK
}

// snapText is a snapshot as text, in which a list without elements is the same as none (R6).
func snapText(s api.Snapshot) string {
	return fmt.Sprintf("%d %d%v%t%d %v", s.Index, s.State.Kind, s.State.L, s.State.Sealed, s.State.To, s.Table)
}

// isNought: s is the zero snapshot.
func isNought(s api.Snapshot) bool {
	return s.Index == 0 && s.State.Kind == 0 && len(s.State.L) == 0 && !s.State.Sealed && s.State.To == 0 && len(s.Table) == 0
}

// lookAtStore is all that can be seen of a store.
func lookAtStore(s *store.Store) string {
	var out strings.Builder
	fmt.Fprintf(&out, "next %d, synced %d, first %d, now %s, base %s", s.Next(), s.Synced(), s.First(), snapText(s.Now()), snapText(s.Base()))
	for _, base := range s.Bases() {
		out.WriteString("; " + snapText(base))
	}
	l, err := s.Records(s.First(), s.Next())
	fmt.Fprintf(&out, "; %v, error %d", l, err)
	return out.String()
}

// lookAtDisk is all that can be seen of a disk.
func lookAtDisk(d *files.Disk) string {
	var out strings.Builder
	fmt.Fprintf(&out, "used %d, on %t", d.Used(), d.On())
	for _, name := range d.Names() {
		b, err := d.Read(name)
		fmt.Fprintf(&out, "; %d: %x, error %d", name, b, err)
	}
	return out.String()
}

// wantOK asks of calls that they are done.
func wantOK(t *testing.T, errs ...api.Errno) {
	t.Helper()
	for i, err := range errs {
		if err != api.OK {
			t.Fatalf("call %d: error %d", i, err)
		}
	}
}

// wantAt asks for the snapshot at an index.
func wantAt(t *testing.T, s *store.Store, index int, want api.Snapshot) {
	t.Helper()
	if got, err := At(s, index); err != api.OK || snapText(got) != snapText(want) {
		t.Errorf("At(%d) = %s, error %d, want %s", index, snapText(got), err, snapText(want))
	}
}

// wantNotAt asks for an error at an index, and noughts.
func wantNotAt(t *testing.T, s *store.Store, index int, want api.Errno) {
	t.Helper()
	if got, err := At(s, index); err != want || !isNought(got) {
		t.Errorf("At(%d) = %s, error %d, want error %d", index, snapText(got), err, want)
	}
}

// wantExport asks for bytes, and an error.
func wantExport(t *testing.T, s *store.Store, kind, from, to int, want string, wantErr api.Errno) {
	t.Helper()
	if b, err := Export(s, kind, from, to); err != wantErr || string(b) != want {
		t.Errorf("Export(%d, %d, %d) = %x, error %d, want %x, error %d", kind, from, to, b, err, want, wantErr)
	}
}

// wantImport asks how many records are new, and for an error.
func wantImport(t *testing.T, s *store.Store, kind int, b []byte, want int, wantErr api.Errno) {
	t.Helper()
	if n, err := Import(s, kind, b); n != want || err != wantErr {
		t.Errorf("Import(%d, %x) = %d, error %d, want %d, error %d", kind, b, n, err, want, wantErr)
	}
}

func wantFile(t *testing.T, d *files.Disk, name int, want string) {
	t.Helper()
	if b, err := d.Read(name); string(b) != want || err != api.OK {
		t.Errorf("the file %d: %x, error %d, want %x", name, b, err, want)
	}
}

// wantLog asks for the records of a store that has let go none.
func wantLog(t *testing.T, s *store.Store, want []api.Record) {
	t.Helper()
	if l, err := s.Records(0, s.Next()); !slices.Equal(l, want) || err != api.OK {
		t.Errorf("the log %v, error %d, want %v", l, err, want)
	}
}

// wantUnchanged asks that what is done changes nothing of a store and of its disk.
func wantUnchanged(t *testing.T, d *files.Disk, s *store.Store, do func()) {
	t.Helper()
	seen, there := lookAtStore(s), lookAtDisk(d)
	do()
	if got := lookAtStore(s); got != seen {
		t.Errorf("the store is changed: %s, was %s", got, seen)
	}
	if got := lookAtDisk(d); got != there {
		t.Errorf("the disk is changed: %s, was %s", got, there)
	}
}

// opened is the store that a disk has, which must be there.
func opened(t *testing.T, d *files.Disk, kind int) *store.Store {
	t.Helper()
	s, err := store.Open(d, kind)
	if err != api.OK || s == nil {
		t.Fatalf("Open: error %d", err)
	}
	return s
}

// diskOf is a disk with files, by name, all of which are kept.
func diskOf(t *testing.T, list map[int]string) *files.Disk {
	t.Helper()
	d := files.New(muchRoom)
	for name, b := range list {
		wantOK(t, d.Append(name, []byte(b)), d.Sync(name))
	}
	wantOK(t, d.SyncDir())
	return d
}

// filled is a store on a disk of its own to which records were appended, by blocks of at most 256.
func filled(t *testing.T, kind int, l []api.Record) (*files.Disk, *store.Store) {
	t.Helper()
	d := files.New(muchRoom)
	s := opened(t, d, kind)
	for part := range slices.Chunk(l, 256) {
		wantOK(t, s.Append(part))
	}
	return d, s
}
