package store

import (
	"fmt"
	"math/rand/v2"
	"slices"
	"testing"

	"ferryman/api"
	"ferryman/files"
)

// settings are scripts behind which a counter's store has each of the things that a call may find: no Current segment, one whose name waits, one whose name is kept, older segments, a name 1, checkpoints.
func settings() [][]call {
	open, more := opens(0), goesOn(0, 2)
	return [][]call{
		{open},
		{open, more},
		{open, more, syncs()},
		{open, more, syncs(), more},
		{open, more, retains()},
		{open, more, rotates()},
		{open, more, rotates(), more},
		{open, more, rotates(), more, rotates(), more, checkpoints()},
		{open, more, rotates(), more, checkpoints(), more, rotates()},
		{open, more, rotates(), more, checkpoints(), more},
		{open, more, rotates(), more, rotates(), checkpoints(), more},
		{open, more, rotates(), more, rotates(), checkpoints()},
		{writes(1, "left"), open, more, rotates(), checkpoints(), writes(1, "again"), more},
		{writes(1, "left"), writes(2, "no head"), open, more, checkpoints(), more, crashes(0, 0, 0, 7), open},
	}
}

// changers are the calls of a store that change something.
func changers() []call {
	return []call{goesOn(0, 1), syncs(), rotates(), checkpoints(), retains()}
}

// P12.3 to P12.7: the power goes out behind each call of the disk that a call of the store makes; what is told, what is changed and what is not, and what Open finds behind any loss of power, is as the words say.
func TestThePowerGoesOutAtEachStep(t *testing.T) {
	for _, ahead := range settings() {
		wantAsTold(t, muchRoom, ahead...)
		for _, change := range changers() {
			for n := range 9 {
				script := slices.Concat(quietly(ahead), []call{cuts(n), change})
				for names := range 5 {
					for _, keep := range [][]int{nil, {1, 2}, {1000, 7, 30}} {
						wantAsTold(t, muchRoom, slices.Concat(script, []call{syncs(), crashes(names, keep...), opens(0), goesOn(0, 3), checkpoints(), retains()})...)
						// The same store goes on behind the loss, though nobody should.
						wantAsTold(t, muchRoom, slices.Concat(script, []call{crashes(names, keep...), syncs(), retains()})...)
					}
				}
			}
		}
	}
}

// P12.3 to P12.7: the disk is full at each step.
func TestTheDiskIsFullAtEachStep(t *testing.T) {
	for _, ahead := range settings() {
		used := wantAsTold(t, muchRoom, ahead...).d.Used()
		for _, change := range changers() {
			for _, more := range []int{0, 1, 5, 14, 15, 16, 17, 18, 23, 24, 25, 26, 27, 40, 80, 100} {
				script := slices.Concat(quietly(ahead), []call{change, syncs(), goesOn(0, 1), retains(), checkpoints()})
				wantAsTold(t, used+more, script...)
				wantAsTold(t, used+more, append(quietly(script), crashes(0), opens(0))...)
			}
		}
	}
}

// P12.3: with an error of the disk nothing is changed: neither Current, nor the log, nor what Sync does.
func TestAppendThatTheDiskRefuses(t *testing.T) {
	whole := segmentOf(0, 0, adds(0, 2))
	for room := range len(whole) {
		d := files.New(room)
		s := opened(t, d, 0)
		wantErr(t, s.Append(adds(0, 2)), api.ErrNoSpace)
		wantAt(t, s, 0, 0, 0)
		wantSnapshot(t, s.Now(), counterAt(0))
		wantNames(t, d)
		d.Cut(1)
		wantOK(t, s.Sync()) // there is no Current segment
		if !d.On() {
			t.Error("something was synced")
		}
	}
	d := files.New(len(whole))
	s := opened(t, d, 0)
	wantOK(t, s.Append(adds(0, 2)))
	wantErr(t, s.Append(adds(2, 1)), api.ErrNoSpace)
	wantAt(t, s, 0, 0, 2)
	wantSnapshot(t, s.Now(), counterAt(2))
	wantFile(t, d, 2, whole)
	wantOK(t, s.Sync())
	d.Cut(0)
	wantErr(t, s.Append(adds(2, 1)), api.ErrDown)
	wantAt(t, s, 0, 2, 2)
	d.Crash(0, nil)
	wantLog(t, opened(t, d, 0), 0, 2)
}

// P12.4: Sync is the disk's Sync and SyncDir; where one of them fails Synced stays, and Current does.
func TestSyncStepByStep(t *testing.T) {
	for _, rotates := range []bool{false, true} {
		for done := range 3 {
			d := files.New(muchRoom)
			s := opened(t, d, 0)
			wantOK(t, s.Append(adds(0, 2)))
			d.Cut(done)
			sync := s.Sync
			if rotates {
				sync = s.Rotate
			}
			want, synced := api.ErrDown, 0
			if done == 2 {
				want, synced = api.OK, 2
			}
			wantErr(t, sync(), want)
			wantAt(t, s, 0, synced, 2)
			d.Crash(1, nil) // the name is there, of the bytes those that are kept
			if done == 0 {
				wantFile(t, d, 2, "")
			} else {
				wantFile(t, d, 2, segmentOf(0, 0, adds(0, 2)))
			}
			names := []int{2}
			if rotates && done == 2 {
				names = []int{2, 4}
			}
			wantOK(t, s.Append(adds(2, 1)))
			wantNames(t, d, names...) // Current stays with an error
		}
	}
}

// P12.4: a name that SyncDir did not keep is not kept yet: the next Sync keeps it.
func TestTheNameIsKeptByALaterSync(t *testing.T) {
	d := files.New(muchRoom)
	s := opened(t, d, 0)
	wantOK(t, s.Append(adds(0, 2)))
	d.Cut(1)
	wantErr(t, s.Sync(), api.ErrDown)
	d.Crash(0, nil)
	wantNames(t, d)
	wantOK(t, s.Append(adds(2, 1)), s.Sync())
	d.Crash(0, nil)
	wantNames(t, d, 2)
}

// P12.5: what is on the disk, and what is not, when the power goes out behind each step of a checkpoint; only when all are done it is Base.
func TestCheckpointStepByStep(t *testing.T) {
	log, whole := segmentOf(0, 0, adds(0, 2)), checkpointOf(counterAt(2))
	for done, c := range []struct {
		files  map[int]string // as they are, with all changes that wait
		synced int
		kept   map[int]string // if all changes of names are kept, and no more bytes
	}{
		{map[int]string{1: "left", 2: log}, 0, map[int]string{1: "left", 2: ""}},
		{map[int]string{1: "left", 2: log}, 0, map[int]string{1: "left", 2: log}},
		{map[int]string{1: "left", 2: log}, 2, map[int]string{1: "left", 2: log}},
		{map[int]string{2: log}, 2, map[int]string{2: log}},
		{map[int]string{1: whole, 2: log}, 2, map[int]string{1: "", 2: log}},
		{map[int]string{1: whole, 2: log}, 2, map[int]string{1: whole, 2: log}},
		{map[int]string{2: log, 3: whole}, 2, map[int]string{2: log, 3: whole}},
		{map[int]string{2: log, 3: whole}, 2, map[int]string{2: log, 3: whole}},
	} {
		d := diskOf(t, map[int]string{1: "left"})
		s := opened(t, d, 0)
		wantOK(t, s.Append(adds(0, 2)))
		d.Cut(done)
		want, base := api.ErrDown, 0
		if done == 7 {
			want, base = api.OK, 2
		}
		wantErr(t, s.Checkpoint(), want)
		wantAt(t, s, 0, c.synced, 2)
		wantSnapshot(t, s.Base(), counterAt(base))
		if len(s.Bases()) != 1+base/2 {
			t.Errorf("%d steps: %d bases", done, len(s.Bases()))
		}
		if names := d.Names(); len(names) != len(c.files) || d.On() {
			t.Errorf("%d steps: the names %v, on %t", done, names, d.On())
		}
		waits := map[int]int{3: 1, 4: 2, 5: 2, 6: 3}[done]
		if done < 2 {
			waits = 1
		}
		d.Crash(waits, nil)
		for name, b := range c.kept {
			wantFile(t, d, name, b)
		}
		if names := d.Names(); len(names) != len(c.kept) {
			t.Errorf("%d steps: the names %v", done, names)
		}
	}
}

// P12.5: no room for a checkpoint: what was done ahead of it stays, and the log goes on where there is room again.
func TestCheckpointOnAFullDisk(t *testing.T) {
	log, whole := segmentOf(0, 0, adds(0, 2)), checkpointOf(counterAt(2))
	for room := len(log) + len("left"); room < len(log)+len(whole); room++ {
		d := files.New(room)
		wantOK(t, d.Append(1, []byte("left")))
		s := opened(t, d, 0)
		wantOK(t, s.Append(adds(0, 2)))
		wantErr(t, s.Checkpoint(), api.ErrNoSpace)
		wantAt(t, s, 0, 2, 2)
		wantNames(t, d, 2)
		wantSnapshot(t, s.Base(), counterAt(0))
		if len(s.Bases()) != 1 {
			t.Error(s.Bases())
		}
		d.Crash(0, nil)
		wantLog(t, opened(t, d, 0), 0, 2)
	}
	d := files.New(len(log) + len(whole)) // that has no room for a record behind it
	s := opened(t, d, 0)
	wantOK(t, s.Append(adds(0, 2)), s.Checkpoint())
	wantNames(t, d, 2, 3)
	wantErr(t, s.Append(adds(2, 1)), api.ErrNoSpace)
	wantErr(t, s.Checkpoint(), api.ErrNoSpace)
	wantOK(t, s.Rotate(), s.Retain())
	wantNames(t, d, 3)
	wantOK(t, s.Append(adds(2, 1)), s.Sync())
	d.Crash(0, nil)
	wantLog(t, opened(t, d, 0), 2, 3)
}

// P12.6: the power goes out behind each step of Retain: First stays with an error, and the records are told from there.
func TestRetainStepByStep(t *testing.T) {
	left := [][]int{{2, 3, 4, 6, 8, 10}, {3, 4, 6, 8, 10}, {3, 6, 8, 10}, {3, 8, 10}, {3, 8, 10}} // the names behind so many steps
	firsts := []int{0, 2, 4, 4, 4}                                                                // what Open finds as First then
	for done, names := range left {
		for kept := range done + 1 {
			d, s := retainable(t, 5, true)
			d.Cut(done)
			want, first := api.ErrDown, 0
			if done == 4 {
				want, first, kept = api.OK, 4, 4 // SyncDir kept all changes
			}
			wantErr(t, s.Retain(), want)
			wantLog(t, s, first, 8)
			wantNames(t, d, names...)
			d.Crash(kept, nil)
			wantNames(t, d, left[kept]...)
			wantLog(t, opened(t, d, 0), firsts[kept], 8)
		}
	}
}

// journal is all that was appended to a store and not lost, and how many of its records were synced.
type journal struct {
	kind   int
	all    []api.Record
	synced int
}

// wantBeginning asks of what Open finds behind a loss of power that it is some beginning of all that was appended, with all that was synced. It forgets what was lost.
func (j *journal) wantBeginning(t *testing.T, d *files.Disk, text string) *Store {
	t.Helper()
	s := opened(t, d, j.kind)
	next := s.Next()
	if next < j.synced || next > len(j.all) || s.Synced() != next {
		t.Fatalf("%s: next %d, of %d of which %d were synced", text, next, len(j.all), j.synced)
	}
	if l, err := s.Records(s.First(), next); err != api.OK || !slices.Equal(l, j.all[s.First():next]) {
		t.Fatalf("%s: %v, error %d, want %v", text, l, err, j.all[s.First():next])
	}
	if got, want := snapText(s.Now()), snapText(madeOf(j.kind, j.all[:next])); got != want {
		t.Fatalf("%s: now %s, want %s", text, got, want)
	}
	if s.First() > s.Base().Index || s.Base().Index > next {
		t.Fatalf("%s: first %d, base %d, next %d", text, s.First(), s.Base().Index, next)
	}
	for _, base := range s.Bases() {
		if got, want := snapText(base), snapText(madeOf(j.kind, j.all[:base.Index])); got != want {
			t.Fatalf("%s: base %s, want %s", text, got, want)
		}
	}
	j.all, j.synced = j.all[:next], next
	return s
}

// change makes one of the store's calls, by chance, and writes down what came of it.
func (j *journal) change(s *Store, chance *rand.Rand) string {
	switch chance.IntN(9) {
	case 0, 1, 2, 3:
		// Which records they are is told by chance, so that what is lost is not what is appended in its place.
		l := records(j.kind, len(j.all), 1+chance.IntN(4))
		for i := range l {
			l[i].Op.B = chance.IntN(1000)
		}
		err := s.Append(l)
		if err == api.OK {
			j.all = append(slices.Clone(j.all), l...)
		}
		return fmt.Sprintf("Append of %d: %d", len(l), err)
	case 4, 5:
		return fmt.Sprintf("Sync: %d", j.note(s.Sync(), len(j.all)))
	case 6:
		return fmt.Sprintf("Rotate: %d", j.note(s.Rotate(), len(j.all)))
	case 7:
		return fmt.Sprintf("Checkpoint: %d", j.note(s.Checkpoint(), len(j.all)))
	}
	return fmt.Sprintf("Retain: %d", s.Retain())
}

// note: what was done with OK keeps so many records.
func (j *journal) note(err api.Errno, synced int) api.Errno {
	if err == api.OK {
		j.synced = synced
	}
	return err
}

// P12.7: many losses of power, one behind the other, with little room and with much.
func TestBehindAnyLossOfPower(t *testing.T) {
	chance := rand.New(rand.NewPCG(12, 7)) // the same numbers in every run
	for i := range 1200 {
		d := files.New([]int{60, 200, 600, muchRoom}[i%4])
		j := &journal{kind: i % 6}
		s := opened(t, d, j.kind)
		text := fmt.Sprintf("script %d", i)
		for range 8 {
			if chance.IntN(2) == 0 {
				d.Cut(1 + chance.IntN(15))
			}
			for range chance.IntN(14) {
				text += "; " + j.change(s, chance)
				if s.Synced() < j.synced || s.Synced() > s.Next() || s.Next() != len(j.all) {
					t.Fatalf("%s: synced %d, next %d", text, s.Synced(), s.Next())
				}
			}
			names, keep := chance.IntN(9)-1, []int{chance.IntN(60) - 1, chance.IntN(60), chance.IntN(60), chance.IntN(9)}[:chance.IntN(5)]
			text += fmt.Sprintf("; Crash(%d, %v)", names, keep)
			d.Crash(names, keep)
			s = j.wantBeginning(t, d, text)
		}
	}
}

// P12.7: every Cut of one script, and every loss behind it.
func TestEveryLossOfOneScript(t *testing.T) {
	for cut := 1; cut < 45; cut++ {
		for names := range 6 {
			for _, keep := range [][]int{nil, {0, 0, 1000}, {9}, {16}, {100, 3}} {
				d := files.New(2000)
				j := &journal{}
				s := opened(t, d, 0)
				d.Cut(cut)
				for i := range 12 {
					l := adds(len(j.all), 1+i%3)
					if s.Append(l) == api.OK {
						j.all = append(slices.Clone(j.all), l...)
					}
					switch i % 4 {
					case 0:
						j.note(s.Sync(), len(j.all))
					case 1:
						j.note(s.Rotate(), len(j.all))
					case 2:
						j.note(s.Checkpoint(), len(j.all))
					case 3:
						s.Retain()
					}
				}
				d.Crash(names, keep)
				s = j.wantBeginning(t, d, fmt.Sprintf("Cut(%d), Crash(%d, %v)", cut, names, keep))
				// What is appended behind it is found, too.
				wantOK(t, s.Append(adds(s.Next(), 2)), s.Sync())
				j.all = append(slices.Clone(j.all), adds(len(j.all), 2)...)
				j.synced = len(j.all)
				d.Crash(0, nil)
				j.wantBeginning(t, d, "behind another loss")
			}
		}
	}
}

// P12.7: a full disk leaves what is kept, whatever is tried on it.
func TestAFullDiskLeavesWhatIsKept(t *testing.T) {
	for room := 20; room < 260; room++ {
		d := files.New(room)
		s := opened(t, d, 0)
		j := &journal{}
		for i := range 12 {
			l := adds(len(j.all), 1)
			if s.Append(l) == api.OK {
				j.all = append(slices.Clone(j.all), l...)
			}
			j.note(s.Sync(), len(j.all))
			if i%5 == 4 {
				j.note(s.Rotate(), len(j.all))
				s.Checkpoint()
			}
		}
		if room < 200 && len(j.all) == 12 {
			t.Errorf("room %d: the disk did not come to be full", room)
		}
		if j.synced != len(j.all) || s.Synced() != len(j.all) {
			t.Errorf("room %d: a full disk does not sync: %d of %d", room, j.synced, len(j.all))
		}
		d.Crash(0, nil)
		j.wantBeginning(t, d, fmt.Sprintf("room %d", room))
	}
}

// chanceCall is one of all calls of a store and of its disk, by chance.
func chanceCall(kind int, chance *rand.Rand) call {
	switch chance.IntN(31) {
	case 0, 1, 2, 3, 4, 5:
		return goesOn(kind, 1+chance.IntN(4))
	case 6, 7, 8:
		return syncs()
	case 9, 10, 11:
		return rotates()
	case 12, 13, 14:
		return checkpoints()
	case 15, 16, 17:
		return retains()
	case 18:
		return appends(records(kind, chance.IntN(20), chance.IntN(4))...)
	case 19:
		return cuts(chance.IntN(20))
	case 20, 21, 22:
		return crashes(chance.IntN(8)-1, []int{chance.IntN(50) - 1, chance.IntN(50), chance.IntN(5)}[:chance.IntN(4)]...)
	case 23, 24, 25, 26:
		return opens(kind)
	case 27:
		return opens(chance.IntN(9) - 1)
	case 28:
		first := chance.IntN(12)
		return writes(2*chance.IntN(6), segmentOf(kind, first, records(kind, first+chance.IntN(2)*chance.IntN(2), 1+chance.IntN(5)))+[]string{"", "x", "\x00"}[chance.IntN(3)])
	}
	if chance.IntN(2) == 0 {
		return removes(chance.IntN(12))
	}
	return writes(1+2*chance.IntN(5), checkpointOf(madeOf(kind, records(kind, 0, chance.IntN(12)))))
}

// P12.1 to P12.6: long scripts by chance, of the store and of what others do to its disk, against the plain one.
func TestScriptsByChance(t *testing.T) {
	chance := rand.New(rand.NewPCG(12, 12)) // the same numbers in every run
	for i := range 1500 {
		kind := i % 6
		script := []call{opens(kind)}
		for range 10 + chance.IntN(50) {
			script = append(script, chanceCall(kind, chance))
		}
		wantAsTold(t, []int{-1, 50, 150, 500, muchRoom, muchRoom}[i/6%6], script...)
	}
}

// P12.1 to P12.6: all short scripts.
func TestAllShortScripts(t *testing.T) {
	calls := append(changers(), opens(0), crashes(1, 20), crashes(0), cuts(3))
	for _, a := range calls {
		for _, b := range calls {
			for _, c := range calls {
				for _, e := range calls {
					wantAsTold(t, 300, opens(0), goesOn(0, 1), a, b, c, e, opens(0))
				}
			}
		}
	}
}
