package store

import (
	"fmt"
	"math"
	"slices"
	"testing"

	"ferryman/api"
	"ferryman/files"
	"ferryman/objs"
	"ferryman/snapshot"
)

// wantOK asks of calls that they are done.
func wantOK(t *testing.T, errs ...api.Errno) {
	t.Helper()
	for i, err := range errs {
		if err != api.OK {
			t.Fatalf("call %d: error %d", i, err)
		}
	}
}

// wantErr asks of a call that error.
func wantErr(t *testing.T, got, want api.Errno) {
	t.Helper()
	if got != want {
		t.Errorf("error %d, want %d", got, want)
	}
}

func wantNames(t *testing.T, d *files.Disk, want ...int) {
	t.Helper()
	if l := d.Names(); !slices.Equal(l, want) {
		t.Errorf("the names: %v, want %v", l, want)
	}
}

func wantFile(t *testing.T, d *files.Disk, name int, want string) {
	t.Helper()
	if b, err := d.Read(name); string(b) != want || err != api.OK {
		t.Errorf("the file %d: %x, error %d, want %x", name, b, err, want)
	}
}

func wantSnapshot(t *testing.T, got, want api.Snapshot) {
	t.Helper()
	if snapText(got) != snapText(want) {
		t.Errorf("the snapshot %s, want %s", snapText(got), snapText(want))
	}
}

// wantAt asks for First, Synced and Next.
func wantAt(t *testing.T, s *Store, first, synced, next int) {
	t.Helper()
	if s.First() != first || s.Synced() != synced || s.Next() != next {
		t.Errorf("first %d, synced %d, next %d, want %d, %d, %d", s.First(), s.Synced(), s.Next(), first, synced, next)
	}
}

func wantRecords(t *testing.T, s *Store, from, to int, want []api.Record) {
	t.Helper()
	if l, err := s.Records(from, to); !slices.Equal(l, want) || err != api.OK {
		t.Errorf("Records(%d, %d) = %v, error %d, want %v", from, to, l, err, want)
	}
}

// opened is the store that a disk has, which must be there.
func opened(t *testing.T, d *files.Disk, kind int) *Store {
	t.Helper()
	s, err := Open(d, kind)
	if err != api.OK || s == nil {
		t.Fatalf("Open: error %d", err)
	}
	return s
}

// diskOf is a disk with files, by name, all of which are kept.
func diskOf(t *testing.T, list map[int]string) *files.Disk {
	t.Helper()
	d := files.New(muchRoom)
	for name, b := range list {
		wantOK(t, d.Append(name, []byte(b)), d.Sync(name))
	}
	wantOK(t, d.SyncDir())
	return d
}

// found is the counter's store on a disk with these files; the plain one must find the same.
func found(t *testing.T, list map[int]string) *Store {
	t.Helper()
	s := opened(t, diskOf(t, list), api.Counter)
	plain, _ := plainOpen(diskOf(t, list), api.Counter)
	if got, want := lookAtStore(s), lookAtStore(plain); got != want {
		t.Errorf("found %s, want %s", got, want)
	}
	return s
}

// wantLog asks of a counter's store that its log has the first so many of adds, from first on, and that its Now is what all of them make.
func wantLog(t *testing.T, s *Store, first, next int) {
	t.Helper()
	wantAt(t, s, first, next, next)
	wantRecords(t, s, first, next, adds(first, next-first))
	wantSnapshot(t, s.Now(), madeOf(api.Counter, adds(0, next)))
}

// counterAt is the counter's snapshot behind so many of adds.
func counterAt(index int) api.Snapshot { return madeOf(api.Counter, adds(0, index)) }

// P12.1 to P12.4: the chapter's example.
func TestTheExample(t *testing.T) {
	d := files.New(1000)
	s := opened(t, d, api.Counter)
	wantOK(t, s.Append([]api.Record{{}}), s.Sync())
	wantAt(t, s, 0, 1, 1)
	wantNames(t, d, 2)
	wantFile(t, d, 2, framed("\x6c\x03\x00\x00")+framed("\x00\x01\x00\x00\x00\x00\x00\x00"))
}

// P12.1 to P12.4: the document's fourth example of the whole.
func TestTheExampleOfALossOfPower(t *testing.T) {
	d := files.New(10000)
	s := opened(t, d, api.Counter)
	wantOK(t, s.Append(adds(0, 1)), s.Sync(), s.Append(adds(1, 1)))
	wantAt(t, s, 0, 1, 2)
	d.Crash(0, nil)
	s = opened(t, d, api.Counter)
	wantLog(t, s, 0, 1)
	if n := s.Now().State.L[0]; n != 1 {
		t.Error(n)
	}
}

// P12.1: which kinds there are; with an error there is no store.
func TestOpenOfEachKind(t *testing.T) {
	for _, kind := range []int{math.MinInt, -2, -1, 6, 7, math.MaxInt} {
		if s, err := Open(files.New(10), kind); s != nil || err != api.ErrArg {
			t.Errorf("Open of kind %d: %v, error %d", kind, s, err)
		}
	}
	for kind := range 6 {
		s := opened(t, files.New(10), kind)
		wantAt(t, s, 0, 0, 0)
		wantSnapshot(t, s.Now(), api.Snapshot{State: objs.Start(kind)})
		wantSnapshot(t, s.Base(), api.Snapshot{State: objs.Start(kind)})
		if l := s.Bases(); len(l) != 1 {
			t.Errorf("%d bases", len(l))
		}
		wantRecords(t, s, 0, 0, nil)
	}
}

// P12.1, R2: the power is out; a kind that there is not is told ahead of it.
func TestOpenWhileThePowerIsOut(t *testing.T) {
	d := diskOf(t, map[int]string{2: segmentOf(0, 0, adds(0, 2))})
	d.Cut(0)
	for kind := range 6 {
		if s, err := Open(d, kind); s != nil || err != api.ErrDown {
			t.Errorf("Open of kind %d: %v, error %d", kind, s, err)
		}
	}
	for _, kind := range []int{-1, 6} {
		if s, err := Open(d, kind); s != nil || err != api.ErrArg {
			t.Errorf("Open of kind %d: %v, error %d", kind, s, err)
		}
	}
	d.Crash(0, nil)
	wantLog(t, opened(t, d, 0), 0, 2)
}

// P12.1: Open changes nothing on the disk: it counts for no Cut, and no change of names waits behind it.
func TestOpenChangesNothing(t *testing.T) {
	for _, list := range []map[int]string{
		{},
		{2: segmentOf(0, 0, adds(0, 2))},
		{0: "x", 1: "y", 2: segmentOf(0, 0, adds(0, 2)) + "torn", 3: checkpointOf(counterAt(1)), 4: "none", 7: "none"},
	} {
		d := diskOf(t, list)
		ahead := lookAtDisk(d)
		d.Cut(1)
		opened(t, d, 0)
		if got := lookAtDisk(d); got != ahead {
			t.Errorf("%s, want %s", got, ahead)
		}
		d.Crash(1, nil)
		if got := lookAtDisk(d); got != ahead {
			t.Errorf("%s, want %s", got, ahead)
		}
	}
}

// P12.1, words: a segment whose first frame is no head of version 3 and of the kind has nothing; another one behind it is the first one then.
func TestSegmentsWithoutARightHead(t *testing.T) {
	blocks, head := blockOf(adds(0, 2)...), headOf(3, 0, 0)
	for text, b := range map[string]string{
		"empty":               "",
		"no frame":            "abc",
		"cut within the head": head[:5],
		"cut to one byte":     head[:1],
		"a turned bit":        head[:2] + "\x02" + head[3:] + blocks,
		"blocks alone":        blocks,
		"empty data":          framed("") + blocks,
		"Magic alone":         framed("\x6c") + blocks,
		"a number lacks":      framed("\x6c\x03\x00") + blocks,
		"something behind":    framed("\x6c\x03\x00\x00\x00") + blocks,
		"another Magic":       framed("\x6d\x03\x00\x00") + blocks,
		"a snapshot":          checkpointOf(counterAt(0)),
		"longer numbers":      framed("\x6c\x03\x00\x80\x00") + blocks,
		"version 0":           headOf(0, 0, 0) + blocks,
		"version 1":           headOf(1, 0, 0) + blocks,
		"version 2":           headOf(2, 0, 0) + blocks,
		"version 4":           headOf(4, 0, 0) + blocks,
		"kind 1":              headOf(3, 1, 0) + blocks,
		"kind 5":              headOf(3, 5, 0) + blocks,
		"kind 6":              headOf(3, 6, 0) + blocks,
		"a head behind":       framed("\x00") + head + blocks,
		"a byte ahead":        "\x00" + head + blocks,
	} {
		t.Run(text, func(t *testing.T) {
			wantLog(t, found(t, map[int]string{2: b}), 0, 0)
			wantLog(t, found(t, map[int]string{2: b, 4: segmentOf(0, 0, adds(0, 3))}), 0, 3)
			wantLog(t, found(t, map[int]string{2: segmentOf(0, 0, adds(0, 3)), 6: b}), 0, 3)
			wantLog(t, found(t, map[int]string{2: segmentOf(0, 0, adds(0, 3)), 6: b, 8: segmentOf(0, 3, adds(3, 1))}), 0, 4)
		})
	}
}

// P12.1: each kind finds its own segments alone.
func TestSegmentsOfOtherKinds(t *testing.T) {
	list := map[int]string{}
	for kind := range 6 {
		list[2+2*kind] = segmentOf(kind, 0, records(kind, 0, kind+1))
	}
	for kind := range 6 {
		s := opened(t, diskOf(t, list), kind)
		wantAt(t, s, 0, kind+1, kind+1)
		wantSnapshot(t, s.Now(), madeOf(kind, records(kind, 0, kind+1)))
	}
}

// P12.1, words: of a segment that is cut anywhere, what its whole frames have.
func TestTornSegments(t *testing.T) {
	blocks := [][]api.Record{adds(0, 1), adds(1, 3), adds(4, 16), adds(20, 1)}
	whole := segmentOf(0, 0, blocks...)
	behind := map[int]int{len(headOf(3, 0, 0)): 0} // how many records there are at a frame's end
	for i := range blocks {
		behind[len(segmentOf(0, 0, blocks[:i+1]...))] = blocks[i][len(blocks[i])-1].Index + 1
	}
	next := 0
	for n := range len(whole) + 1 {
		next = max(next, behind[n])
		s := found(t, map[int]string{2: whole[:n]})
		wantLog(t, s, 0, next)
		s = found(t, map[int]string{2: whole[:n] + "\xff\x01torn"})
		wantLog(t, s, 0, next)
		// A later segment goes on where the torn one ends.
		s = found(t, map[int]string{2: whole[:n], 4: segmentOf(0, next, adds(next, 2))})
		wantLog(t, s, 0, next+2)
	}
	if next != 21 {
		t.Error(next)
	}
}

// P12.1, words: a turned bit ends what a segment has at the frame ahead of it.
func TestTurnedBits(t *testing.T) {
	whole := segmentOf(0, 0, adds(0, 2), adds(2, 2))
	first := len(segmentOf(0, 0, adds(0, 2)))
	for i := range whole {
		b := []byte(whole)
		b[i] ^= 0x10
		next := 0
		if i >= first {
			next = 2
		}
		wantLog(t, found(t, map[int]string{2: string(b)}), 0, next)
	}
}

// P12.1, words: frames behind the head up to the first one that is no block, or does not go on.
func TestBlocksThatDoNotGoOn(t *testing.T) {
	ahead := segmentOf(0, 0, adds(0, 2), adds(2, 1))
	for text, b := range map[string]string{
		"empty data":         framed(""),
		"no block":           framed("\x03\x01"),
		"no records":         framed("\x03\x00"),
		"something behind":   framed("\x03\x01\x00\x00\x00\x00\x00\x00\x00"),
		"a head":             headOf(3, 0, 3),
		"a gap":              blockOf(adds(4, 1)...),
		"once more":          blockOf(adds(2, 1)...),
		"from the beginning": blockOf(adds(0, 3)...),
		"over the end":       blockOf(adds(2, 2)...),
		"far away":           blockOf(api.Record{Index: topNumber}),
		"a footer":           framed("\x02\x09\x20"),
	} {
		t.Run(text, func(t *testing.T) {
			// What would go on stands behind it in vain.
			wantLog(t, found(t, map[int]string{2: ahead + b + blockOf(adds(3, 1)...)}), 0, 3)
			wantLog(t, found(t, map[int]string{2: ahead + b, 4: segmentOf(0, 3, adds(3, 4))}), 0, 7)
			wantLog(t, found(t, map[int]string{2: headOf(3, 0, 0) + b + blockOf(adds(0, 1)...)}), 0, map[string]int{"from the beginning": 3}[text])
		})
	}
}

// P12.1, words: blocks of one record and of 256, and more records than segment's Recover reads.
func TestLongSegments(t *testing.T) {
	var blocks [][]api.Record
	next := 0
	for _, count := range []int{1, 256, 16, 15, 17, 255, 1} {
		blocks = append(blocks, adds(next, count))
		next += count
	}
	for range 20 {
		blocks = append(blocks, adds(next, 256))
		next += 256
	}
	if next < 5000 {
		t.Fatal(next)
	}
	wantLog(t, found(t, map[int]string{2: segmentOf(0, 0, blocks...)}), 0, next)
}

// P12.1: segments whose first index is not the one behind are passed over, and ones behind them whose is are not.
func TestSegmentsThatArePassedOver(t *testing.T) {
	s := found(t, map[int]string{
		2:  segmentOf(0, 0, adds(0, 2)),
		4:  segmentOf(0, 3, adds(3, 1)), // a gap
		6:  segmentOf(0, 2, adds(2, 2)),
		8:  segmentOf(0, 0, adds(0, 9)), // the beginning again
		10: segmentOf(0, 3, adds(3, 5)), // over the end
		12: segmentOf(0, 4),             // no records
		14: segmentOf(0, 4, adds(4, 1)),
		16: segmentOf(0, 4, adds(4, 3)), // once more
		40: segmentOf(0, 5, adds(5, 1)),
		42: segmentOf(0, topNumber),
	})
	wantLog(t, s, 0, 6)
	wantNames(t, s.disk, 2, 4, 6, 8, 10, 12, 14, 16, 40, 42)
}

// P12.1: names rise as numbers do, and not in the order in which they were written.
func TestSegmentsByRisingNames(t *testing.T) {
	wantLog(t, found(t, map[int]string{10: segmentOf(0, 2, adds(2, 2)), 2: segmentOf(0, 0, adds(0, 2)), 100: segmentOf(0, 4, adds(4, 1))}), 0, 5)
	wantLog(t, found(t, map[int]string{4: segmentOf(0, 0, adds(0, 2)), 2: segmentOf(0, 2, adds(2, 2))}), 0, 0) // the first one begins behind Base
	wantLog(t, found(t, map[int]string{topName - 1: segmentOf(0, 0, adds(0, 2))}), 0, 2)
}

// P12.1: the first segment begins ahead of Base, at it, and behind it; the Log ends ahead of it, at it, and behind it.
func TestTheLogAndBase(t *testing.T) {
	for _, c := range []struct{ first, end, base, wantFirst, wantNext int }{
		{0, 5, 0, 0, 5}, {0, 5, 3, 0, 5}, {0, 5, 5, 0, 5}, {2, 5, 2, 2, 5}, {2, 5, 4, 2, 5}, {2, 5, 5, 2, 5},
		{2, 2, 2, 2, 2}, {0, 0, 0, 0, 0},
		{1, 5, 0, 0, 0}, {3, 5, 2, 2, 2}, {3, 3, 2, 2, 2}, // it begins behind Base
		{0, 5, 6, 6, 6}, {0, 5, 9, 9, 9}, {0, 0, 1, 1, 1}, {3, 3, 4, 4, 4}, // it ends ahead of Base
	} {
		list := map[int]string{2: headOf(3, 0, c.first)}
		if c.end > c.first {
			list[2] += blockOf(adds(c.first, c.end-c.first)...)
		}
		if c.base > 0 {
			list[3] = checkpointOf(counterAt(c.base))
		}
		s := found(t, list)
		wantLog(t, s, c.wantFirst, c.wantNext)
		wantSnapshot(t, s.Base(), counterAt(c.base))
	}
}

// P12.1: Now is Base, and what the records from its Index on make of it, whatever those ahead of it would have made.
func TestNowGoesOnFromBase(t *testing.T) {
	base := counterAt(3)
	base.State.L[0] = 1000
	base.Table = []api.Entry{{Proc: 64, Seq: topNumber, Resp: -1 << 50}}
	s := found(t, map[int]string{2: segmentOf(0, 0, adds(0, 4), adds(4, 1)), 3: checkpointOf(base)})
	want, err := snapshot.Take(base, adds(3, 2))
	wantOK(t, err)
	wantSnapshot(t, s.Now(), want)
	if n := s.Now().State.L[0]; n != 1009 {
		t.Error(n)
	}
	wantRecords(t, s, 0, 5, adds(0, 5))
}

// P12.1: a record behind Base that Take does not take leaves an empty Log. (No block holds one, so that it is put into the Log by hand.)
func TestARecordThatIsNotTaken(t *testing.T) {
	base := counterAt(2)
	for text, l := range map[string][]api.Record{
		"it does not fit":       append(adds(0, 3), api.Record{Index: 3, Proc: 65}),
		"its index does not go": append(adds(0, 3), adds(4, 1)...),
	} {
		b := logbook{}
		b.begin(2, 0)
		b.add(l)
		got, now := b.behind(base)
		if got.first != 2 || got.next() != 2 || len(got.records) != 0 || len(got.pieces) != 0 {
			t.Errorf("%s: %v", text, got)
		}
		wantSnapshot(t, now, base)
	}
	b := logbook{}
	b.begin(2, 0)
	b.add(append([]api.Record{{Index: 0, Proc: 65}, {Index: 7}}, adds(2, 1)...)) // those ahead of Base are not asked
	if got, now := b.behind(base); got.next() != 3 || now.Index != 3 {
		t.Error(got, now)
	}
}

// P12.1: checkpoints that are none are passed over; several are told by rising names; the last one is Base, whatever its Index.
func TestCheckpointsOnTheDisk(t *testing.T) {
	log := segmentOf(0, 0, adds(0, 9))
	three, five := checkpointOf(counterAt(3)), checkpointOf(counterAt(5))
	register := checkpointOf(api.Snapshot{Index: 1, State: objs.Start(api.Register)})
	for _, c := range []struct {
		list map[int]string
		want []int // the Indices of Bases
	}{
		{map[int]string{3: three}, []int{0, 3}},
		{map[int]string{3: three, 5: five}, []int{0, 3, 5}},
		{map[int]string{3: five, 5: three}, []int{0, 5, 3}},
		{map[int]string{9: three, 101: five}, []int{0, 3, 5}},
		{map[int]string{topName: three, 101: five}, []int{0, 5, 3}},
		{map[int]string{3: three, 5: three}, []int{0, 3, 3}},
		{map[int]string{3: three, 5: register}, []int{0, 3}},
		{map[int]string{3: register, 5: three}, []int{0, 3}},
		{map[int]string{3: three, 5: ""}, []int{0, 3}},
		{map[int]string{3: "abc", 5: three}, []int{0, 3}},
		{map[int]string{3: three, 5: five[:len(five)-1]}, []int{0, 3}},
		{map[int]string{3: three, 5: five + "\x00"}, []int{0, 3}},
		{map[int]string{3: three, 5: log}, []int{0, 3}},
		{map[int]string{0: three, 1: three, 4: three, 6: five}, []int{0}},
		{map[int]string{1: five, 3: three}, []int{0, 3}},
		{map[int]string{3: checkpointOf(counterAt(0))}, []int{0, 0}},
	} {
		c.list[2] = log
		s := found(t, c.list)
		var got []int
		for _, base := range s.Bases() {
			got = append(got, base.Index)
			wantSnapshot(t, base, counterAt(base.Index))
		}
		if !slices.Equal(got, c.want) || s.Base().Index != c.want[len(c.want)-1] {
			t.Errorf("bases %v, base %d, want %v", got, s.Base().Index, c.want)
		}
		wantLog(t, s, 0, 9)
	}
}

// P12.1: names that are neither segments nor checkpoints, and odd ones that hold a log, are no part of it.
func TestOtherNames(t *testing.T) {
	log := segmentOf(0, 0, adds(0, 2))
	for _, name := range []int{0, 1, 3, 5, topName} {
		wantLog(t, found(t, map[int]string{name: log}), 0, 0)
		wantLog(t, found(t, map[int]string{name: log, 2: segmentOf(0, 0, adds(0, 1)), 4: segmentOf(0, 1, adds(1, 3))}), 0, 4)
	}
	d := diskOf(t, map[int]string{0: log, 1: checkpointOf(counterAt(5)), 3: log})
	s := opened(t, d, 0)
	wantOK(t, s.Append(adds(0, 1)), s.Sync())
	wantFile(t, d, 2, segmentOf(0, 0, adds(0, 1)))
	wantFile(t, d, 0, log)
	wantFile(t, d, 1, checkpointOf(counterAt(5)))
	wantNames(t, d, 0, 1, 2, 3)
	d.Crash(0, nil)
	wantLog(t, opened(t, d, 0), 0, 1)
}

// P12.2: records whole, in parts, none, and where there are none.
func TestRecords(t *testing.T) {
	s := opened(t, files.New(muchRoom), 0)
	next := 0
	for i, count := range []int{1, 5, 256, 3, 30} {
		wantOK(t, s.Append(adds(next, count)))
		next += count
		if i%2 == 0 {
			wantOK(t, s.Rotate())
		}
	}
	all := adds(0, next)
	for from := 0; from <= next; from += 7 {
		for to := from; to <= next; to += 5 {
			wantRecords(t, s, from, to, all[from:to])
		}
	}
	wantRecords(t, s, 0, next, all)
	for i := range next {
		wantRecords(t, s, i, i+1, all[i:i+1])
		wantRecords(t, s, i, i, nil)
	}
	wantRecords(t, s, next, next, nil)
}

// P12.2, R2, R4: where Records answers none, and which error is told.
func TestRecordsOutOfRange(t *testing.T) {
	d := diskOf(t, map[int]string{2: segmentOf(0, 3, adds(3, 5)), 3: checkpointOf(counterAt(4))})
	s := opened(t, d, 0)
	wantAt(t, s, 3, 8, 8)
	for _, c := range []struct {
		from, to int
		want     api.Errno
	}{
		{-1, 5, api.ErrOutOfRange}, {-1, -1, api.ErrOutOfRange}, {math.MinInt, math.MaxInt, api.ErrOutOfRange}, {math.MinInt, 4, api.ErrOutOfRange},
		{5, 4, api.ErrOutOfRange}, {8, 7, api.ErrOutOfRange}, {4, -1, api.ErrOutOfRange}, {4, math.MinInt, api.ErrOutOfRange},
		{3, 9, api.ErrOutOfRange}, {8, 9, api.ErrOutOfRange}, {9, 9, api.ErrOutOfRange}, {math.MaxInt, math.MaxInt, api.ErrOutOfRange},
		{0, 9, api.ErrOutOfRange}, {2, 1, api.ErrOutOfRange}, {0, math.MaxInt, api.ErrOutOfRange}, // also from below First
		{0, 0, api.ErrCompacted}, {0, 8, api.ErrCompacted}, {2, 2, api.ErrCompacted}, {2, 3, api.ErrCompacted}, {2, 8, api.ErrCompacted},
		{3, 3, api.OK}, {3, 8, api.OK}, {8, 8, api.OK}, {7, 8, api.OK},
	} {
		l, err := s.Records(c.from, c.to)
		if err != c.want || err != api.OK && len(l) != 0 {
			t.Errorf("Records(%d, %d) = %v, error %d, want error %d", c.from, c.to, l, err, c.want)
		}
	}
}

// P12.3: what may not stand in one block, and what does not begin with Next, is refused, and changes nothing.
func TestAppendOfWrongRecords(t *testing.T) {
	d := files.New(muchRoom)
	s := opened(t, d, 0)
	for range 2 { // without a Current segment, and with one
		next := s.Next()
		seen, there := lookAtStore(s), lookAtDisk(d)
		for text, c := range map[string]struct {
			l    []api.Record
			want api.Errno
		}{
			"none":                  {nil, api.ErrArg},
			"empty":                 {[]api.Record{}, api.ErrArg},
			"257":                   {adds(next, 257), api.ErrArg},
			"257 with a gap":        {adds(next+1, 257), api.ErrArg},
			"a gap":                 {adds(next+1, 1), api.ErrGap},
			"a great gap":           {[]api.Record{{Index: topNumber}}, api.ErrGap},
			"a gap within":          {append(adds(next, 1), adds(next+2, 1)...), api.ErrArg},
			"twice the same":        {append(adds(next, 1), adds(next, 1)...), api.ErrArg},
			"falling":               {append(adds(next+1, 1), adds(next, 1)...), api.ErrArg},
			"below 0":               {[]api.Record{{Index: -1}}, api.ErrArg},
			"index too great":       {[]api.Record{{Index: topNumber + 1}}, api.ErrArg},
			"does not fit":          {[]api.Record{{Index: next, Proc: 65}}, api.ErrArg},
			"does not fit, and gap": {[]api.Record{{Index: next + 5, Op: api.Op{Code: 11}}}, api.ErrArg},
			"the last does not fit": {append(adds(next, 2), api.Record{Index: next + 2, Seq: -1}), api.ErrArg},
		} {
			if err := s.Append(c.l); err != c.want {
				t.Errorf("%s: error %d, want %d", text, err, c.want)
			}
		}
		if next > 0 {
			wantErr(t, s.Append(adds(next-1, 1)), api.ErrGap) // it is there already
			wantErr(t, s.Append(adds(0, 256)), api.ErrGap)
		}
		if lookAtStore(s) != seen || lookAtDisk(d) != there {
			t.Error("something is changed")
		}
		wantOK(t, s.Append(adds(next, 256)))
	}
	wantRecords(t, s, 0, 512, adds(0, 512))
	wantNames(t, d, 2)
}

// P12.3, R2: wrong records are told ahead of what the disk answers.
func TestAppendTellsWrongRecordsFirst(t *testing.T) {
	d := files.New(0)
	s := opened(t, d, 0)
	wantErr(t, s.Append(nil), api.ErrArg)
	wantErr(t, s.Append(adds(1, 1)), api.ErrGap)
	wantErr(t, s.Append(adds(0, 1)), api.ErrNoSpace)
	d.Cut(0)
	wantErr(t, s.Append(nil), api.ErrArg)
	wantErr(t, s.Append(adds(1, 1)), api.ErrGap)
	wantErr(t, s.Append(adds(0, 1)), api.ErrDown)
	wantAt(t, s, 0, 0, 0)
	wantNames(t, d)
}

// P12.3: the bytes of segments, in one Append each; records stay as they are, with the Resp that they have.
func TestTheBytesOfSegments(t *testing.T) {
	d := files.New(muchRoom)
	s := opened(t, d, 0)
	d.Cut(2)
	wantOK(t, s.Append(adds(0, 3)), s.Append(adds(3, 1)))
	if d.On() {
		t.Error("two Appends are fewer calls of the disk")
	}
	wantErr(t, s.Append(adds(4, 1)), api.ErrDown)
	wantFile2 := segmentOf(0, 0, adds(0, 3), adds(3, 1))
	d.Crash(1, []int{len(wantFile2)})
	wantFile(t, d, 2, wantFile2)
	s = opened(t, d, 0)
	wantOK(t, s.Append(adds(4, 20)), s.Sync(), s.Append(adds(24, 1)), s.Rotate(), s.Append(adds(25, 256)))
	wantFile(t, d, 2, wantFile2)
	wantFile(t, d, 4, segmentOf(0, 4, adds(4, 20), adds(24, 1)))
	wantFile(t, d, 6, segmentOf(0, 25, adds(25, 256)))
	wantNames(t, d, 2, 4, 6)
	wantRecords(t, s, 0, 281, adds(0, 281))
	wantSnapshot(t, s.Now(), counterAt(281))
}

// P12.3: Append puts the segments' kind into their heads.
func TestTheHeadsOfEachKind(t *testing.T) {
	for kind := range 6 {
		d := files.New(muchRoom)
		s := opened(t, d, kind)
		wantOK(t, s.Append(records(kind, 0, 5)), s.Rotate(), s.Append(records(kind, 5, 5)))
		wantFile(t, d, 2, segmentOf(kind, 0, records(kind, 0, 5)))
		wantFile(t, d, 4, segmentOf(kind, 5, records(kind, 5, 5)))
	}
}

// P12.3: the name of the next segment is two more than the greatest even one of 2 and more that there is then.
func TestTheNameOfTheNextSegment(t *testing.T) {
	for _, c := range []struct {
		names []int
		want  int
	}{
		{nil, 2}, {[]int{0}, 2}, {[]int{1}, 2}, {[]int{0, 1, 3, 5, 99}, 2}, {[]int{2}, 4}, {[]int{4}, 6}, {[]int{2, 4, 100}, 102}, {[]int{100, 2, 103}, 102},
		{[]int{topName}, 2}, {[]int{topName - 3}, topName - 1},
	} {
		list := map[int]string{}
		for _, name := range c.names {
			list[name] = "x"
		}
		d := diskOf(t, list)
		s := opened(t, d, 0)
		wantOK(t, s.Append(adds(0, 1)))
		wantFile(t, d, c.want, segmentOf(0, 0, adds(0, 1)))
	}
	d := diskOf(t, map[int]string{topName - 1: ""})
	s := opened(t, d, 0)
	wantErr(t, s.Append(adds(0, 1)), api.ErrArg) // a name that may not be
	wantAt(t, s, 0, 0, 0)
	wantNames(t, d, topName-1)
	wantOK(t, d.Remove(topName-1), s.Append(adds(0, 1)))
	wantNames(t, d, 2)
}

// P12.3, P12.5: names as they are when they are needed, where some were removed since Open.
func TestNamesWhereSomeWereRemoved(t *testing.T) {
	d := files.New(muchRoom)
	s := opened(t, d, 0)
	for i := range 4 {
		wantOK(t, s.Append(adds(i, 1)), s.Rotate(), s.Checkpoint())
	}
	wantNames(t, d, 2, 3, 4, 5, 6, 7, 8, 9)
	wantOK(t, d.Remove(9), d.Remove(7), d.Remove(3), d.Remove(2))
	wantOK(t, s.Checkpoint())
	wantNames(t, d, 4, 5, 6, 7, 8)
	wantOK(t, d.Remove(8), d.Remove(4), d.Append(20, nil), s.Append(adds(4, 1)))
	wantNames(t, d, 5, 6, 7, 20, 22)
	d = files.New(muchRoom)
	s = opened(t, d, 0)
	for i := range 3 {
		wantOK(t, s.Append(adds(i, 1)), s.Rotate())
	}
	wantOK(t, s.Checkpoint(), s.Retain())
	wantNames(t, d, 3)
	wantOK(t, s.Append(adds(3, 1)), s.Sync())
	wantNames(t, d, 2, 3) // 2 again
	d.Crash(0, nil)
	wantLog(t, opened(t, d, 0), 3, 4)
}

// P12.3: Append to the Current segment, though a greater even name is there by then.
func TestAppendGoesOnWithCurrent(t *testing.T) {
	d := files.New(muchRoom)
	s := opened(t, d, 0)
	wantOK(t, s.Append(adds(0, 1)), d.Append(8, []byte("x")), s.Append(adds(1, 1)), s.Sync(), s.Checkpoint(), s.Append(adds(2, 1)))
	wantFile(t, d, 2, segmentOf(0, 0, adds(0, 1), adds(1, 1), adds(2, 1)))
	wantOK(t, s.Rotate(), s.Append(adds(3, 1)))
	wantFile(t, d, 10, segmentOf(0, 3, adds(3, 1)))
}

// P12.4: Sync keeps the bytes, and the name just once; without a Current segment it asks nothing of the disk.
func TestSync(t *testing.T) {
	d := files.New(muchRoom)
	s := opened(t, d, 0)
	d.Cut(1)
	wantOK(t, s.Sync(), s.Sync())
	wantAt(t, s, 0, 0, 0)
	wantOK(t, s.Append(adds(0, 2))) // the one that the Cut waits for
	wantErr(t, s.Sync(), api.ErrDown)
	wantAt(t, s, 0, 0, 2)
	d = files.New(muchRoom)
	s = opened(t, d, 0)
	wantOK(t, s.Append(adds(0, 2)))
	wantAt(t, s, 0, 0, 2)
	for i, calls := range []int{2, 1, 1, 1} { // of the disk: Sync and SyncDir, then Sync alone
		if i > 1 {
			wantOK(t, s.Append(adds(i, 1)))
		}
		d.Cut(calls + 1)
		wantOK(t, s.Sync())
		wantAt(t, s, 0, s.Next(), s.Next())
		wantOK(t, d.Append(9, nil))
		if d.On() {
			t.Errorf("Sync %d: fewer than %d calls of the disk", i, calls)
		}
		d.Crash(0, nil)
		wantFile(t, d, 2, segmentOf(0, 0, [][]api.Record{adds(0, 2), adds(2, 1), adds(3, 1)}[:max(1, i)]...))
	}
}

// P12.4, P12.6: SyncDir of Retain keeps Current's name, too: a Sync behind it need not.
func TestTheNameIsKeptByRetain(t *testing.T) {
	d := files.New(muchRoom)
	s := opened(t, d, 0)
	wantOK(t, s.Append(adds(0, 2)), s.Retain())
	wantAt(t, s, 0, 0, 2) // the bytes are not kept
	d.Cut(2)
	wantOK(t, s.Sync())
	if !d.On() {
		t.Error("Sync kept the name once more")
	}
	wantAt(t, s, 0, 2, 2)
	d.Crash(0, nil)
	wantLog(t, opened(t, d, 0), 0, 2)
}

// P12.4: a segment that there is no more.
func TestSyncOfARemovedSegment(t *testing.T) {
	d := files.New(muchRoom)
	s := opened(t, d, 0)
	wantOK(t, s.Append(adds(0, 1)), d.Remove(2))
	for range 2 {
		wantErr(t, s.Sync(), api.ErrNone)
		wantErr(t, s.Rotate(), api.ErrNone)
		wantErr(t, s.Checkpoint(), api.ErrNone)
		wantAt(t, s, 0, 0, 1)
		wantNames(t, d)
	}
}

// P12.4: Rotate is Sync, and the next Append begins another segment; without a Current one it changes nothing.
func TestRotate(t *testing.T) {
	d := files.New(muchRoom)
	s := opened(t, d, 0)
	d.Cut(3)
	wantOK(t, s.Rotate(), s.Append(adds(0, 1)), s.Rotate(), s.Rotate())
	if d.On() {
		t.Error("Rotate asked less of the disk than Sync")
	}
	wantAt(t, s, 0, 1, 1)
	wantOK(t, s.Rotate(), s.Sync()) // no Current segment: nothing is asked of the disk
	d.Crash(0, nil)
	wantNames(t, d, 2)
	s = opened(t, d, 0)
	wantOK(t, s.Append(adds(1, 1)), s.Rotate(), s.Rotate(), s.Append(adds(2, 1)))
	wantNames(t, d, 2, 4, 6)
	wantAt(t, s, 0, 2, 3)
	d.Crash(0, nil)
	wantNames(t, d, 2, 4)
}

// P12.5: a checkpoint's bytes and names; Bases, and Base.
func TestCheckpoint(t *testing.T) {
	d := files.New(muchRoom)
	s := opened(t, d, 0)
	wantOK(t, s.Checkpoint())
	wantNames(t, d, 3)
	wantFile(t, d, 3, checkpointOf(counterAt(0)))
	wantOK(t, s.Append(adds(0, 5)), s.Checkpoint())
	wantAt(t, s, 0, 5, 5)
	wantNames(t, d, 2, 3, 5)
	wantFile(t, d, 5, checkpointOf(counterAt(5)))
	wantOK(t, s.Append(adds(5, 2)))
	wantSnapshot(t, s.Base(), counterAt(5))
	wantSnapshot(t, s.Now(), counterAt(7))
	wantOK(t, s.Checkpoint(), s.Checkpoint())
	wantNames(t, d, 2, 3, 5, 7, 9)
	if l := s.Bases(); len(l) != 5 || l[0].Index != 0 || l[1].Index != 0 || l[2].Index != 5 || l[3].Index != 7 || l[4].Index != 7 {
		t.Error(l)
	}
	wantFile(t, d, 2, segmentOf(0, 0, adds(0, 5), adds(5, 2)))
	seen := lookAtStore(s)
	d.Crash(0, nil)
	if got := lookAtStore(opened(t, d, 0)); got != seen {
		t.Errorf("%s, want %s", got, seen)
	}
}

// P12.5: the name of the next checkpoint is two more than the greatest odd one of 3 and more that there is then.
func TestTheNameOfTheNextCheckpoint(t *testing.T) {
	for _, c := range []struct {
		names []int
		want  int
	}{
		{nil, 3}, {[]int{0}, 3}, {[]int{1}, 3}, {[]int{0, 1, 2, 4, 98}, 3}, {[]int{3}, 5}, {[]int{5}, 7}, {[]int{3, 5, 101, 104}, 103}, {[]int{topName - 2}, topName},
	} {
		list := map[int]string{}
		for _, name := range c.names {
			list[name] = "x"
		}
		d := diskOf(t, list)
		s := opened(t, d, 0)
		wantOK(t, s.Checkpoint())
		wantFile(t, d, c.want, checkpointOf(counterAt(0)))
		if slices.Contains(d.Names(), 1) {
			t.Error("the name 1 is left")
		}
	}
	d := diskOf(t, map[int]string{topName: ""})
	s := opened(t, d, 0)
	wantOK(t, s.Append(adds(0, 1)))
	wantErr(t, s.Checkpoint(), api.ErrArg) // a name that may not be
	wantAt(t, s, 0, 1, 1)
	wantNames(t, d, 1, 2, topName)
	wantSnapshot(t, s.Base(), counterAt(0))
	if len(s.Bases()) != 1 {
		t.Error(s.Bases())
	}
	wantOK(t, d.Remove(topName), s.Checkpoint())
	wantNames(t, d, 2, 3)
}

// P12.5: what a name 1 has is not in the checkpoint.
func TestCheckpointWhereANameOneIs(t *testing.T) {
	for _, b := range []string{"", "left", checkpointOf(counterAt(9))} {
		d := diskOf(t, map[int]string{1: b})
		s := opened(t, d, 0)
		wantOK(t, s.Append(adds(0, 2)))
		d.Cut(7 + 1)
		wantOK(t, s.Checkpoint()) // Sync, SyncDir; Remove, Append, Sync, Rename, SyncDir
		if !d.On() {
			t.Error("more calls of the disk")
		}
		wantOK(t, d.Sync(2))
		if d.On() {
			t.Error("fewer calls of the disk")
		}
		d.Crash(0, nil)
		wantNames(t, d, 2, 3)
		wantFile(t, d, 3, checkpointOf(counterAt(2)))
		wantSnapshot(t, opened(t, d, 0).Base(), counterAt(2))
	}
}

// P12.5: Now may not be, behind the greatest index that a record has: Sync is done, and no more.
func TestCheckpointWhereNowMayNotBe(t *testing.T) {
	base := api.Snapshot{Index: topNumber, State: objs.Start(0)}
	list := map[int]string{1: "left", 3: checkpointOf(base)}
	d := diskOf(t, list)
	s := opened(t, d, 0)
	wantAt(t, s, topNumber, topNumber, topNumber)
	r := api.Record{Index: topNumber, Op: api.Op{Code: api.Add, A: 5}}
	wantOK(t, s.Append([]api.Record{r}))
	wantAt(t, s, topNumber, topNumber, topNumber+1)
	wantErr(t, s.Checkpoint(), api.ErrArg)
	wantAt(t, s, topNumber, topNumber+1, topNumber+1)
	wantNames(t, d, 1, 2, 3)
	wantFile(t, d, 1, "left")
	wantSnapshot(t, s.Base(), base)
	if l := s.Bases(); len(l) != 2 {
		t.Error(l)
	}
	wantErr(t, s.Append([]api.Record{{Index: topNumber + 1}}), api.ErrArg)
	wantRecords(t, s, topNumber, topNumber+1, []api.Record{r})
	wantOK(t, s.Rotate(), s.Retain())
	d.Cut(0)
	wantErr(t, s.Checkpoint(), api.ErrArg) // no Current segment: ahead of ErrDown
	d.Crash(0, nil)
	s = opened(t, d, 0)
	wantAt(t, s, topNumber, topNumber+1, topNumber+1)
	if now := s.Now(); now.Index != topNumber+1 || now.State.L[0] != 5 {
		t.Error(now)
	}
	// With a Current segment and no power, Sync's error is the first one.
	d = diskOf(t, list)
	s = opened(t, d, 0)
	wantOK(t, s.Append([]api.Record{r}))
	d.Cut(0)
	wantErr(t, s.Checkpoint(), api.ErrDown)
	wantAt(t, s, topNumber, topNumber, topNumber+1)
}

// retainable is a store of five segments, of two records each but the third, which has none, with a checkpoint at base; the last one is Current, if isCurrent.
func retainable(t *testing.T, base int, isCurrent bool) (*files.Disk, *Store) {
	t.Helper()
	list := map[int]string{2: segmentOf(0, 0, adds(0, 2)), 4: segmentOf(0, 2, adds(2, 2)), 6: segmentOf(0, 4), 8: segmentOf(0, 4, adds(4, 2))}
	if base > 0 {
		list[3] = checkpointOf(counterAt(base))
	}
	d := diskOf(t, list)
	s := opened(t, d, 0)
	wantOK(t, s.Append(adds(6, 2)), s.Sync())
	if !isCurrent {
		wantOK(t, s.Rotate())
	}
	return d, s
}

// P12.6: nothing, some, and all of the segments end at most at Base's Index; Current stays.
func TestRetain(t *testing.T) {
	for _, c := range []struct {
		base      int
		isCurrent bool
		names     []int
		first     int
	}{
		{0, false, []int{2, 4, 6, 8, 10}, 0}, {1, false, []int{2, 3, 4, 6, 8, 10}, 0},
		{2, false, []int{3, 4, 6, 8, 10}, 2}, {3, false, []int{3, 4, 6, 8, 10}, 2},
		{4, false, []int{3, 8, 10}, 4}, {5, true, []int{3, 8, 10}, 4}, {6, false, []int{3, 10}, 6},
	} {
		d, s := retainable(t, c.base, c.isCurrent)
		d.Cut(10)
		wantOK(t, s.Retain())
		wantNames(t, d, c.names...)
		wantLog(t, s, c.first, 8)
		if c.first > 0 {
			l, err := s.Records(c.first-1, 8)
			if len(l) != 0 || err != api.ErrCompacted {
				t.Error(l, err)
			}
		}
		wantOK(t, s.Append(adds(8, 1)), s.Sync(), s.Retain())
		d.Crash(0, nil)
		wantLog(t, opened(t, d, 0), c.first, 9)
	}
	for _, isCurrent := range []bool{false, true} {
		d, s := retainable(t, 3, isCurrent)
		wantOK(t, s.Checkpoint(), s.Retain())
		if isCurrent {
			wantNames(t, d, 3, 5, 10)
			wantLog(t, s, 6, 8)
			wantOK(t, s.Append(adds(8, 1)), s.Rotate(), s.Checkpoint(), s.Retain())
			wantNames(t, d, 3, 5, 7)
			wantLog(t, s, 9, 9)
		} else {
			wantNames(t, d, 3, 5)
			wantLog(t, s, 8, 8)
			wantOK(t, s.Append(adds(8, 1)))
			wantNames(t, d, 2, 3, 5)
			wantAt(t, s, 8, 8, 9)
			wantRecords(t, s, 8, 9, adds(8, 1))
		}
	}
}

// P12.6: Retain is Removes and one SyncDir, which is there also where there is nothing to remove.
func TestRetainAndTheDisk(t *testing.T) {
	for base, calls := range map[int]int{0: 1, 1: 1, 2: 2, 4: 4, 6: 5} {
		d, s := retainable(t, base, true)
		d.Cut(calls)
		wantOK(t, s.Retain())
		if d.On() {
			t.Errorf("Base %d: fewer than %d calls of the disk", base, calls)
		}
		d.Crash(0, nil)
		wantAt(t, opened(t, d, 0), s.First(), 8, 8)
	}
	d := files.New(10)
	s := opened(t, d, 0)
	wantOK(t, s.Retain())
	wantAt(t, s, 0, 0, 0)
	d.Cut(0)
	wantErr(t, s.Retain(), api.ErrDown)
}

// P12.6: segments that are not of the Log stay, whatever they have.
func TestRetainLeavesOtherFiles(t *testing.T) {
	list := map[int]string{
		0: "x", 1: "y", 2: "no head", 4: segmentOf(0, 0, adds(0, 2)), 6: segmentOf(0, 0, adds(0, 1)), 8: segmentOf(1, 0),
		10: segmentOf(0, 2, adds(2, 2)), 12: segmentOf(0, 9, adds(9, 1)), 3: checkpointOf(counterAt(1)), 5: checkpointOf(counterAt(4)), 7: "z",
	}
	d := diskOf(t, list)
	s := opened(t, d, 0)
	wantOK(t, s.Retain())
	wantNames(t, d, 0, 1, 2, 3, 5, 6, 7, 8, 12)
	wantLog(t, s, 4, 4)
	// Where the Log is empty, there are no segments of it.
	for _, base := range []int{3, 9} {
		d = diskOf(t, map[int]string{2: segmentOf(0, 4, adds(4, 2)), 3: checkpointOf(counterAt(base))})
		s = opened(t, d, 0)
		wantOK(t, s.Retain())
		wantNames(t, d, 2, 3)
		wantLog(t, s, base, base)
	}
}

// P12.6: a segment that there is no more: ErrNone, and First stays.
func TestRetainOfARemovedSegment(t *testing.T) {
	d, s := retainable(t, 4, true)
	wantOK(t, d.Remove(4))
	for range 2 {
		if err := s.Retain(); err != api.ErrNone {
			t.Errorf("error %d", err)
		}
		wantLog(t, s, 0, 8)
	}
	wantNames(t, d, 3, 6, 8, 10) // 2 was removed ahead of the error, 6 was not
}

// P12.1 to P12.6: a store of each kind, on its ordinary way, opened again at each step.
func TestAStoreOfEachKind(t *testing.T) {
	for kind := range 6 {
		script := []call{opens(kind)}
		for range 3 {
			script = append(script,
				goesOn(kind, 3), syncs(), goesOn(kind, 1), rotates(), goesOn(kind, 20), checkpoints(), goesOn(kind, 5), rotates(), retains(), goesOn(kind, 2))
		}
		x := wantAsTold(t, muchRoom, script...)
		next := x.s.Next()
		if next != 3*31 || x.s.First() == 0 || len(x.s.Bases()) != 4 {
			t.Errorf("kind %d: %s", kind, lookAtStore(x.s))
		}
		wantSnapshot(t, x.s.Now(), madeOf(kind, records(kind, 0, next)))
		for i := range script {
			wantAsTold(t, muchRoom, slices.Concat(quietly(script[:i+1]), []call{opens(kind)}, script[i+1:])...)
			wantAsTold(t, muchRoom, slices.Concat(quietly(script[:i+1]), []call{crashes(i, i, 3*i), opens(kind)}, script[i+1:])...)
		}
	}
}

// P12.3: a sealed object: records are appended, and change nothing of it.
func TestASealedObject(t *testing.T) {
	d := files.New(muchRoom)
	s := opened(t, d, 0)
	l := []api.Record{{Index: 0, Op: api.Op{Code: api.Add, A: 4}}, {Index: 1, Proc: 1, Op: api.Op{Code: api.Seal, A: 2}}, {Index: 2, Proc: 2, Seq: 9, Op: api.Op{Code: api.Add, A: 4}}}
	wantOK(t, s.Append(l), s.Checkpoint())
	want := api.Snapshot{Index: 3, State: api.State{L: []int{4}, Sealed: true, To: 2}, Table: []api.Entry{{}, {Proc: 1}, {Proc: 2, Seq: 9, Resp: api.Void}}}
	wantSnapshot(t, s.Now(), want)
	d.Crash(0, nil)
	wantSnapshot(t, opened(t, d, 0).Base(), want)
}

// P12.2: what is asked answers also while the power is out.
func TestWhatIsSeenWhileThePowerIsOut(t *testing.T) {
	d, s := retainable(t, 3, true)
	seen := lookAtStore(s)
	d.Cut(0)
	if got := lookAtStore(s); got != seen {
		t.Errorf("%s, want %s", got, seen)
	}
}

// R3: what is handed in stays as it was, and later changes to it change nothing.
func TestWhatIsHandedInStays(t *testing.T) {
	d := files.New(muchRoom)
	s := opened(t, d, 0)
	l := append(make([]api.Record, 0, 10), adds(0, 3)...)
	wantOK(t, s.Append(l[:2]))
	if !slices.Equal(l, adds(0, 3)) || l[:4][3] != (api.Record{}) {
		t.Error(l)
	}
	l[0], l[1], l[2] = api.Record{Proc: 9}, api.Record{Index: 77}, api.Record{Seq: 8}
	wantRecords(t, s, 0, 2, adds(0, 2))
	wantSnapshot(t, s.Now(), counterAt(2))
	wantOK(t, s.Append(adds(2, 1)))
	if l[2] != (api.Record{Seq: 8}) {
		t.Error(l)
	}
	wantRecords(t, s, 0, 3, adds(0, 3))
}

// R3: what is answered is the caller's own: later changes to it change nothing of the store, nor of another answer.
func TestWhatIsAnsweredIsTheCallersOwn(t *testing.T) {
	spoil := func(s api.Snapshot) {
		for i := range s.State.L {
			s.State.L[i] = -7
		}
		for i := range s.Table {
			s.Table[i] = api.Entry{Proc: 60}
		}
		_ = append(s.State.L, 1, 2, 3)
		_ = append(s.Table, api.Entry{Proc: 61}, api.Entry{Proc: 62})
	}
	d := files.New(muchRoom)
	s := opened(t, d, 0)
	for range 3 {
		next := s.Next()
		wantOK(t, s.Append(adds(next, 4)), s.Checkpoint(), s.Append(adds(next+4, 3)))
		seen := lookAtStore(s)
		second := []string{snapText(s.Now()), snapText(s.Base())}
		now, base := s.Now(), s.Base()
		spoil(s.Now())
		spoil(s.Base())
		bases := s.Bases()
		for i := range bases {
			spoil(bases[i])
			bases[i].Index = 99
		}
		_ = append(bases[:1], api.Snapshot{Index: 55})
		l, _ := s.Records(0, next+5)
		more, _ := s.Records(0, next+5)
		for i := range l {
			l[i] = api.Record{Index: -1}
		}
		_ = append(l, api.Record{Index: 44}, api.Record{Index: 45})
		if !slices.Equal(more, adds(0, next+5)) {
			t.Error(more)
		}
		if got := lookAtStore(s); got != seen {
			t.Errorf("%s, want %s", got, seen)
		}
		if snapText(now) != second[0] || snapText(base) != second[1] {
			t.Error(now, base)
		}
		wantOK(t, s.Append(adds(s.Next(), 1)))
		wantSnapshot(t, s.Now(), counterAt(s.Next()))
		if snapText(now) != second[0] { // later records change nothing of an earlier answer
			t.Error(now)
		}
	}
	s = opened(t, files.New(10), 0) // Now and Base are one and the same here
	spoil(s.Now())
	wantSnapshot(t, s.Base(), counterAt(0))
	spoil(s.Base())
	wantSnapshot(t, s.Now(), counterAt(0))
}

// P12.1: two stores on one disk are each their own.
func TestTwoStoresOnOneDisk(t *testing.T) {
	d := files.New(muchRoom)
	a, b := opened(t, d, 0), opened(t, d, 4)
	wantOK(t, a.Append(adds(0, 2)), b.Append(records(4, 0, 3)), a.Append(adds(2, 1)), b.Checkpoint(), a.Checkpoint())
	wantNames(t, d, 2, 3, 4, 5)
	d.Crash(0, nil)
	wantLog(t, opened(t, d, 0), 0, 3)
	wantSnapshot(t, opened(t, d, 4).Base(), madeOf(4, records(4, 0, 3)))
}

// R5: the same calls answer the same.
func TestTheSameCallsAnswerTheSame(t *testing.T) {
	want := ""
	for range 5 {
		x := wantAsTold(t, muchRoom, opens(4), goesOn(4, 50), checkpoints(), goesOn(4, 9), rotates(), goesOn(4, 9), crashes(0, 5), opens(4))
		got := fmt.Sprint(lookAtStore(x.s), lookAtDisk(x.d))
		if want == "" {
			want = got
		}
		if got != want {
			t.Fatal(got, want)
		}
	}
}

// R1: a long log, in a time that grows with it alone.
func TestALongLog(t *testing.T) {
	d := files.New(1 << 30)
	s := opened(t, d, 0)
	const count = 60000
	for i := range count {
		if err := s.Append(adds(i, 1)); err != api.OK {
			t.Fatal(i, err)
		}
		if i%100 == 99 {
			wantOK(t, s.Rotate())
		}
		if i%10000 == 9999 {
			wantOK(t, s.Checkpoint())
		}
	}
	wantOK(t, s.Retain())
	wantAt(t, s, count, count, count)
	wantOK(t, s.Append(adds(count, 1)), s.Sync())
	s = opened(t, d, 0)
	wantLog(t, s, count, count+1)
}
