package restore

import (
	"math"
	"testing"

	"ferryman/api"
	"ferryman/files"
	"ferryman/objs"
	"ferryman/snapshot"
	"ferryman/store"
)

// P13.1: the chapter's example.
func TestTheExample(t *testing.T) {
	var l []api.Record
	for i, n := range []int{1, 2, 4} {
		l = append(l, api.Record{Index: i, Op: api.Op{Code: api.Add, A: n}})
	}
	_, s := filled(t, api.Counter, l)
	for index, n := range []int{0, 1, 3, 7} {
		got, err := At(s, index)
		if err != api.OK || got.Index != index || len(got.State.L) != 1 || got.State.L[0] != n {
			t.Errorf("At(%d) = %v, error %d, want %d", index, got, err, n)
		}
	}
	wantNotAt(t, s, 4, api.ErrOutOfRange)
}

// busy is a store of a kind with 90 records in many segments, with checkpoints, and with Retain, if these are asked for.
func busy(t *testing.T, kind int, checkpoints, retains bool) (*files.Disk, *store.Store) {
	t.Helper()
	d := files.New(muchRoom)
	s := opened(t, d, kind)
	for i := range 90 {
		wantOK(t, s.Append(records(kind, i, 1)))
		if i%9 == 8 {
			wantOK(t, s.Rotate())
		}
		if checkpoints && i%20 == 16 {
			wantOK(t, s.Checkpoint())
		}
		if retains && i%30 == 29 {
			wantOK(t, s.Retain())
		}
	}
	return d, s
}

// P13.1, P13.4: of each kind the states at all indices, without checkpoints and with them.
func TestAtEachIndex(t *testing.T) {
	for kind := range 6 {
		all := records(kind, 0, 90)
		for _, checkpoints := range []bool{false, true} {
			_, s := busy(t, kind, checkpoints, false)
			for index := range 91 {
				wantAt(t, s, index, madeOf(kind, all[:index]))
			}
			wantNotAt(t, s, -1, api.ErrOutOfRange)
			wantNotAt(t, s, 91, api.ErrOutOfRange)
		}
	}
}

// P13.1, P13.4: of each kind the states at all indices behind Retain, by the same store and by one that is opened on its disk: 0 and the checkpoints stay, and all from the last one on. The records ahead of it, from First on, stay in vain: the checkpoint ahead of these is below First.
func TestAtEachIndexBehindRetain(t *testing.T) {
	for kind := range 6 {
		all := records(kind, 0, 90)
		d, s := busy(t, kind, true, true)
		wantOK(t, s.Sync())
		for _, one := range []*store.Store{s, opened(t, d, kind)} {
			if one.First() != 72 || one.Base().Index != 77 || one.Next() != 90 {
				t.Fatalf("first %d, base %d, next %d", one.First(), one.Base().Index, one.Next())
			}
			for index := range 91 {
				switch {
				case index >= 77 || index == 57 || index == 37 || index == 17 || index == 0:
					wantAt(t, one, index, madeOf(kind, all[:index]))
				default:
					wantNotAt(t, one, index, api.ErrCompacted)
				}
			}
			wantNotAt(t, one, -1, api.ErrOutOfRange)
			wantNotAt(t, one, 91, api.ErrOutOfRange)
		}
	}
}

// P13.1: a store without anything has one state.
func TestAtOfAnEmptyStore(t *testing.T) {
	for kind := range 6 {
		s := opened(t, files.New(0), kind)
		wantAt(t, s, 0, api.Snapshot{State: objs.Start(kind)})
		for _, index := range []int{math.MinInt, -1, 1, 2, math.MaxInt} {
			wantNotAt(t, s, index, api.ErrOutOfRange)
		}
	}
}

// marked is a counter's snapshot that no records make, so that what is made of it can be told.
func marked(index, mark int) api.Snapshot {
	return api.Snapshot{Index: index, State: api.State{L: []int{mark * 1000}}, Table: []api.Entry{{Proc: 64, Seq: mark}}}
}

// P13.1, R2: which base the state at an index is made of. Of each case: the first index of a log that ends ahead of 9, the indices of the checkpoints by rising names, and for each index from 0 to 9 which one it is made of (0: Start), or c: ErrCompacted, or r: ErrOutOfRange.
func TestWhichBaseItIs(t *testing.T) {
	for _, c := range []struct {
		first int
		bases []int
		want  string
	}{
		{0, nil, "0000000000"},
		{0, []int{3}, "0001111111"},
		{0, []int{9}, "0000000001"},
		{0, []int{8}, "0000000011"},
		{0, []int{1}, "0111111111"},
		{0, []int{3, 5}, "0001122222"},
		{0, []int{3, 5, 7}, "0001122333"},
		// The greatest one that is not above the index, and not the last one.
		{0, []int{5, 3}, "0002211111"},
		{0, []int{7, 3, 5}, "0002233111"},
		{0, []int{5, 7, 3}, "0003311222"},
		// Of the greatest ones the last one.
		{0, []int{3, 3}, "0002222222"},
		{0, []int{3, 3, 3}, "0003333333"},
		{0, []int{5, 3, 5, 3}, "0004433333"},
		{0, []int{3, 5, 3, 5}, "0003344444"},
		{0, []int{0}, "1111111111"},
		{0, []int{0, 0}, "2222222222"},
		{0, []int{4, 0}, "2222111111"},
		{0, []int{9, 9}, "0000000002"},
		// One above Next.
		{0, []int{12, 4}, "0000222222"},
		{0, []int{10, 9}, "0000000002"},
		// Below First there are bases alone; one that is below First leads nowhere.
		{4, []int{4}, "0ccc111111"},
		{4, []int{6}, "0ccccc1111"},
		{4, []int{9}, "0cccccccc1"},
		{4, []int{3, 4}, "0cc1222222"},
		{4, []int{3, 5}, "0cc1c22222"},
		{4, []int{3, 6}, "0cc1cc2222"},
		{4, []int{3, 3, 6}, "0cc2cc3333"},
		{4, []int{6, 4}, "0ccc221111"},
		{4, []int{2, 3, 6}, "0c12cc3333"},
		{4, []int{6, 2, 6, 2, 5}, "0c4cc53333"},
		{4, []int{0, 4}, "1ccc222222"},
		{1, []int{1}, "0111111111"},
		{1, []int{3}, "0cc1111111"},
		{9, []int{9}, "0cccccccc1"},
		// A log that Open empties: it begins behind the last checkpoint.
		{4, []int{3}, "0cc1rrrrrr"},
		{4, []int{6, 3}, "0cc2rrrrrr"},
		{1, nil, "0rrrrrrrrr"},
		{4, []int{12}, "0ccccccccc"},
	} {
		list := map[int]string{2: headOf(3, 0, c.first)}
		if c.first < 9 {
			list[2] += blockOf(adds(c.first, 9-c.first))
		}
		bases := []api.Snapshot{counterAt(0)}
		for i, index := range c.bases {
			bases = append(bases, marked(index, i+1))
			list[3+2*i] = checkpointOf(marked(index, i+1))
		}
		s := opened(t, diskOf(t, list), api.Counter)
		for index, which := range c.want {
			switch which {
			case 'c':
				wantNotAt(t, s, index, api.ErrCompacted)
			case 'r':
				wantNotAt(t, s, index, api.ErrOutOfRange)
			default:
				base := bases[which-'0']
				want, err := snapshot.Take(base, adds(base.Index, index-base.Index))
				wantOK(t, err)
				wantAt(t, s, index, want)
			}
		}
		wantNotAt(t, s, -1, api.ErrOutOfRange)
		wantNotAt(t, s, s.Next()+1, api.ErrOutOfRange)
		if t.Failed() {
			t.Fatalf("from %d on, with checkpoints at %v", c.first, c.bases)
		}
	}
}

// P13.1, R2: an index beyond the log is told ahead of one that was let go; a base there does not help.
func TestAtBeyondTheLog(t *testing.T) {
	s := opened(t, diskOf(t, map[int]string{2: fileOf(0, 4, adds(4, 5)), 3: checkpointOf(marked(12, 1)), 5: checkpointOf(marked(6, 2))}), 0)
	for _, index := range []int{math.MinInt, -1 << 40, -2, -1, 10, 11, 12, 13, 1 << 40, math.MaxInt} {
		wantNotAt(t, s, index, api.ErrOutOfRange)
	}
	wantNotAt(t, s, 5, api.ErrCompacted)
	wantAt(t, s, 6, marked(6, 2))
}

// P13.1: the greatest indices that there are.
func TestAtTheGreatestIndex(t *testing.T) {
	base := api.Snapshot{Index: topNumber, State: objs.Start(api.Counter)}
	s := opened(t, diskOf(t, map[int]string{3: checkpointOf(base)}), api.Counter)
	wantAt(t, s, topNumber, base)
	wantNotAt(t, s, topNumber+1, api.ErrOutOfRange)
	wantOK(t, s.Append([]api.Record{{Index: topNumber, Proc: 2, Seq: 7, Op: api.Op{Code: api.Add, A: 5}}}))
	wantAt(t, s, 0, api.Snapshot{State: objs.Start(api.Counter)})
	wantNotAt(t, s, 1, api.ErrCompacted)
	wantNotAt(t, s, topNumber-1, api.ErrCompacted)
	wantAt(t, s, topNumber, base)
	wantAt(t, s, topNumber+1, api.Snapshot{Index: topNumber + 1, State: api.State{L: []int{5}}, Table: []api.Entry{{Proc: 2, Seq: 7}}})
	wantNotAt(t, s, topNumber+2, api.ErrOutOfRange)
	wantNotAt(t, s, math.MaxInt, api.ErrOutOfRange)
}

// P13.1: ahead of a seal the object is not sealed, and behind it it stays as it was.
func TestAtAroundASeal(t *testing.T) {
	l := adds(0, 6)
	l[3].Op = api.Op{Code: api.Seal, A: api.Replicas}
	_, s := filled(t, api.Counter, l)
	wantOK(t, s.Checkpoint())
	for index := range 7 {
		wantAt(t, s, index, madeOf(api.Counter, l[:index]))
		got, _ := At(s, index)
		if got.State.Sealed != (index > 3) || index > 3 && (got.State.To != api.Replicas || got.State.L[0] != 6) {
			t.Errorf("At(%d) = %v", index, got)
		}
	}
}

// P13.1: what was let go by an earlier store, and what was lost with the power, is not there; the rest is as it was.
func TestAtBehindALossOfPower(t *testing.T) {
	d := files.New(muchRoom)
	s := opened(t, d, api.Counter)
	wantOK(t, s.Append(adds(0, 20)), s.Rotate(), s.Checkpoint(), s.Append(adds(20, 10)), s.Sync(), s.Append(adds(30, 10)))
	wantAt(t, s, 40, counterAt(40))
	d.Crash(0, nil)
	s = opened(t, d, api.Counter)
	for index := range 31 {
		wantAt(t, s, index, counterAt(index))
	}
	wantNotAt(t, s, 31, api.ErrOutOfRange)
	wantOK(t, s.Retain())
	wantNotAt(t, s, 19, api.ErrCompacted)
	wantAt(t, s, 20, counterAt(20))
	wantAt(t, s, 25, counterAt(25))
}

// P13.1: nothing is asked of the disk, and nothing is changed.
func TestAtWhileThePowerIsOut(t *testing.T) {
	d, s := busy(t, api.Store, true, false)
	d.Cut(1)
	wantUnchanged(t, d, s, func() {
		for index := -1; index < 92; index++ {
			At(s, index)
		}
	})
	d.Cut(0)
	wantUnchanged(t, d, s, func() {
		for index := range 91 {
			wantAt(t, s, index, madeOf(api.Store, records(api.Store, 0, index)))
		}
	})
}

// R3: what At answers is the caller's own, whether it is a base or made of one.
func TestWhatAtAnswersIsTheCallersOwn(t *testing.T) {
	d, s := busy(t, api.Store, true, false)
	for index := range 91 {
		wantUnchanged(t, d, s, func() {
			got, _ := At(s, index)
			other, _ := At(s, index)
			want := snapText(other)
			for i := range got.State.L {
				got.State.L[i] = -7
			}
			for i := range got.Table {
				got.Table[i] = api.Entry{Proc: 60}
			}
			_ = append(got.State.L, 1, 2, 3)
			_ = append(got.Table, api.Entry{Proc: 61}, api.Entry{Proc: 62})
			if snapText(other) != want {
				t.Errorf("At(%d): two answers share something", index)
			}
			wantAt(t, s, index, other)
		})
	}
	earlier, _ := At(s, 90)
	want := snapText(earlier)
	wantOK(t, s.Append(records(api.Store, 90, 30)), s.Checkpoint(), s.Rotate(), s.Retain())
	if snapText(earlier) != want {
		t.Error("later records change an earlier answer")
	}
}
