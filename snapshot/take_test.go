package snapshot

import (
	"math"
	"math/rand/v2"
	"slices"
	"testing"

	"ferryman/api"
	"ferryman/objs"
)

// wantNote asks of Note that table.
func wantNote(t *testing.T, table []api.Entry, r api.Record, want []api.Entry) {
	t.Helper()
	if got := Note(table, r); !slices.Equal(got, want) {
		t.Errorf("Note(%v, %v) = %v, want %v", table, r, got, want)
	}
}

// wantTaken asks of Take that snapshot.
func wantTaken(t *testing.T, s api.Snapshot, l []api.Record, want api.Snapshot) {
	t.Helper()
	if got, err := Take(s, l); err != api.OK || !same(got, want) {
		t.Errorf("Take(%v, %v) = %v, error %d, want %v", s, l, got, err, want)
	}
}

// wantNotTaken asks of Take that error, and the zero Snapshot.
func wantNotTaken(t *testing.T, s api.Snapshot, l []api.Record, want api.Errno) {
	t.Helper()
	if got, err := Take(s, l); err != want || !isZero(got) {
		t.Errorf("Take(%v, %v) = %v, error %d, want error %d", s, l, got, err, want)
	}
}

// P9.4: no entry of that process, one, and the places where it may stand.
func TestNote(t *testing.T) {
	r := api.Record{Index: 77, Proc: 5, Seq: 9, Op: api.Op{Code: api.Add, A: 3}, Resp: -2}
	mine := api.Entry{Proc: 5, Seq: 9, Resp: -2}
	e := func(proc int) api.Entry { return api.Entry{Proc: proc, Seq: 100 + proc, Resp: 200 + proc} }
	for _, c := range [][2][]api.Entry{
		{nil, {mine}},
		{{}, {mine}},
		{{e(5)}, {mine}},
		{{mine}, {mine}},
		{{e(4)}, {e(4), mine}},
		{{e(6)}, {mine, e(6)}},
		{{e(1), e(3), e(8)}, {e(1), e(3), mine, e(8)}},
		{{e(1), e(5), e(8)}, {e(1), mine, e(8)}},
		{{e(5), e(8)}, {mine, e(8)}},
		{{e(1), e(5)}, {e(1), mine}},
		// several of it
		{{e(5), e(5)}, {mine}},
		{{e(5), e(1), e(5), e(8), e(5)}, {e(1), mine, e(8)}},
		{{e(8), e(5), e(5)}, {mine, e(8)}},
		// entries that do not rise, and two of another process
		{{e(8), e(1)}, {mine, e(8), e(1)}},
		{{e(3), e(8), e(1), e(9)}, {e(3), mine, e(8), e(1), e(9)}},
		{{e(3), e(1)}, {e(3), e(1), mine}},
		{{e(9), e(5), e(1), e(5)}, {mine, e(9), e(1)}},
		{{e(1), e(1), e(8), e(8)}, {e(1), e(1), mine, e(8), e(8)}},
		{{e(2), e(5), e(1), e(7), e(6), e(5), e(7)}, {e(2), e(1), mine, e(7), e(6), e(7)}},
	} {
		wantNote(t, c[0], r, c[1])
	}
}

// P9.4: numbers that may not be are noted as they are.
func TestNoteOfAnyNumbers(t *testing.T) {
	numbers := []int{math.MinInt, -1 << 62, -1, 0, 1, 64, 65, 1 << 62, math.MaxInt}
	for _, proc := range numbers {
		for _, n := range numbers {
			r := api.Record{Index: n, Proc: proc, Seq: n, Op: api.Op{Code: n, A: n, B: n}, Resp: -n}
			mine := api.Entry{Proc: proc, Seq: n, Resp: -n}
			wantNote(t, nil, r, []api.Entry{mine})
			for _, other := range numbers {
				table := []api.Entry{{Proc: other, Seq: -1, Resp: math.MaxInt}}
				wantNote(t, table, r, plainNote(table, r))
			}
		}
	}
}

// P9.4: tables by chance, by the chapter's words; one that may be may be behind it.
func TestNoteByTheChaptersWords(t *testing.T) {
	chance := rand.New(rand.NewPCG(4, 4)) // the same numbers in every run
	for range 20000 {
		var table []api.Entry
		for range chance.IntN(8) {
			table = append(table, api.Entry{Proc: chance.IntN(6), Seq: chance.IntN(100), Resp: chance.IntN(100)})
		}
		if chance.IntN(2) == 0 {
			slices.SortFunc(table, func(a, b api.Entry) int { return a.Proc - b.Proc })
		}
		r := api.Record{Proc: chance.IntN(7), Seq: 200, Resp: 300}
		wantNote(t, table, r, plainNote(table, r))
	}
	for _, table := range goodTables() {
		for _, proc := range []int{0, 1, 2, 5, 63, 64} {
			s := some()
			s.Table = Note(table, api.Record{Proc: proc, Seq: topNumber, Resp: api.Void})
			if !May(s) {
				t.Errorf("%v is noted of %d as %v", table, proc, s.Table)
			}
		}
	}
}

// P9.5: the chapter's example, and what the records say of responses is not what is noted.
func TestTakeOfTheExample(t *testing.T) {
	s := api.Snapshot{State: objs.Start(api.Counter)}
	r := api.Record{Proc: 2, Seq: 1, Op: api.Op{Code: api.Add, A: 5}}
	want := api.Snapshot{Index: 1, State: api.State{L: []int{5}}, Table: []api.Entry{{Proc: 2, Seq: 1}}}
	wantTaken(t, s, []api.Record{r}, want)
	r.Resp = 99
	wantTaken(t, s, []api.Record{r}, want)
	l := []api.Record{r, {Index: 1, Proc: 0, Seq: 1, Op: api.Op{Code: api.Add, A: 2}, Resp: -3}, {Index: 2, Proc: 2, Seq: 2, Op: api.Op{Code: api.Get}, Resp: 8}}
	wantTaken(t, s, l, api.Snapshot{Index: 3, State: api.State{L: []int{7}}, Table: []api.Entry{{Proc: 0, Seq: 1, Resp: 5}, {Proc: 2, Seq: 2, Resp: 7}}})
}

// P9.5: without records the snapshot is as it was, also one that may not be.
func TestTakeOfNoRecords(t *testing.T) {
	for _, s := range slices.Concat(goodSnapshots(), toldSnapshots(), untoldSnapshots(), []api.Snapshot{{}}) {
		wantTaken(t, s, nil, s)
		wantTaken(t, s, []api.Record{}, s)
	}
}

// P9.5: records of each kind of object, one behind the other; the table keeps the last one of each process.
func TestTakeOfEachKind(t *testing.T) {
	for kind := range api.Kinds {
		s := api.Snapshot{Index: 40, State: objs.Start(kind), Table: []api.Entry{{Proc: 1, Seq: 7, Resp: 7}, {Proc: 60, Seq: 8, Resp: 8}}}
		l := chanceRecords(kind, 40, 500)
		ops := make([]api.Op, len(l))
		for i := range l {
			ops[i] = l[i].Op
		}
		state, resps := objs.Fold(s.State, ops)
		table := slices.Clone(s.Table)
		for i, r := range l {
			r.Resp = resps[i]
			table = plainNote(table, r)
		}
		want := api.Snapshot{Index: 540, State: state, Table: table}
		wantTaken(t, s, l, want)
		if !May(want) || !slices.Contains(table, api.Entry{Proc: 60, Seq: 8, Resp: 8}) {
			t.Errorf("kind %d: %v", kind, want)
		}
	}
}

// chanceRecords are count records from first on, most of which do something to an object of that kind.
func chanceRecords(kind, first, count int) []api.Record {
	chance := rand.New(rand.NewPCG(5, uint64(kind))) // the same numbers in every run
	codes := [api.Kinds][]int{{api.Add, api.Get}, {api.Write, api.Get}, {api.Push, api.Push, api.Pop}, {api.Push, api.Push, api.Pop}, {api.Put, api.Delete, api.Get}, {api.Deposit, api.Move, api.Get}}
	var out []api.Record
	for i := range count {
		o := api.Op{Code: codes[kind][chance.IntN(len(codes[kind]))], A: chance.IntN(9), B: chance.IntN(9)}
		if chance.IntN(10) == 0 {
			o.Code = chance.IntN(int(api.Seal))
		}
		out = append(out, api.Record{Index: first + i, Proc: chance.IntN(40), Seq: i, Op: o, Resp: chance.IntN(5)})
	}
	return out
}

// P9.5: behind a seal nothing changes but the index and the table, which has Void.
func TestTakeBehindASeal(t *testing.T) {
	s := api.Snapshot{State: api.State{Kind: api.Queue, L: []int{4}}}
	l := []api.Record{
		{Index: 0, Proc: 1, Seq: 1, Op: api.Op{Code: api.Push, A: 5}},
		{Index: 1, Proc: 0, Seq: 1, Op: api.Op{Code: api.Seal, A: api.Psim}},
		{Index: 2, Proc: 1, Seq: 2, Op: api.Op{Code: api.Pop}},
		{Index: 3, Proc: 2, Seq: 1, Op: api.Op{Code: api.Seal, A: api.Replicas}},
	}
	sealed := api.State{Kind: api.Queue, L: []int{4, 5}, Sealed: true, To: api.Psim}
	wantTaken(t, s, l[:2], api.Snapshot{Index: 2, State: sealed, Table: []api.Entry{{Proc: 0, Seq: 1}, {Proc: 1, Seq: 1, Resp: 2}}})
	want := api.Snapshot{Index: 4, State: sealed, Table: []api.Entry{{Proc: 0, Seq: 1}, {Proc: 1, Seq: 2, Resp: api.Void}, {Proc: 2, Seq: 1, Resp: api.Void}}}
	wantTaken(t, s, l, want)
	if !May(want) {
		t.Error("a snapshot behind a seal may not be")
	}
}

// P9.5: a state and a table that may not be are no error: Step leaves such a state, and Note takes any table.
func TestTakeOfWhatMayNotBe(t *testing.T) {
	for _, s := range slices.Concat(toldSnapshots(), untoldSnapshots()) {
		if s.Index < 0 || s.Index > topNumber {
			continue
		}
		r := api.Record{Index: s.Index, Proc: 2, Seq: 6, Op: api.Op{Code: api.Push, A: 1}, Resp: 9}
		want := own(s)
		want.Index++
		want.State, r.Resp = objs.Step(s.State, r.Op)
		want.Table = plainNote(s.Table, r)
		r.Resp = 9
		wantTaken(t, s, []api.Record{r}, want)
	}
}

// P9.5: an index that is not the one by then, at the first record and at a later one.
func TestTakeOfAGap(t *testing.T) {
	for _, other := range []int{math.MinInt, -1 << 62, -300, -1, 1, 2, 16, 1 << 32, topNumber - 303, math.MaxInt - 303} {
		for _, place := range []int{0, 1, 2} {
			l := []api.Record{{Index: 300}, {Index: 301}, {Index: 302}}
			l[place].Index += other
			wantNotTaken(t, some(), l, api.ErrGap)
			l[place].Proc = -1 // which does not fit either
			wantNotTaken(t, some(), l, api.ErrGap)
		}
	}
	wantNotTaken(t, some(), []api.Record{{Index: 300}, {Index: 300}}, api.ErrGap)
	wantNotTaken(t, some(), []api.Record{{Index: 300}, {Index: 302}}, api.ErrGap)
	wantNotTaken(t, some(), []api.Record{{Index: 301}, {Index: 300}}, api.ErrGap)
	for _, index := range []int{math.MinInt, -1, 1 << 62, math.MaxInt} {
		s := some()
		s.Index = index
		wantNotTaken(t, s, []api.Record{{Index: 5}}, api.ErrGap)
	}
}

// wrongRecords do not fit, by one number, which is not the index.
func wrongRecords() []api.Record {
	var out []api.Record
	for _, n := range []int{math.MinInt, -1, 65, math.MaxInt} {
		out = append(out, api.Record{Proc: n})
	}
	for _, n := range []int{math.MinInt, -1, 1 << 62, math.MaxInt} {
		out = append(out, api.Record{Seq: n})
	}
	for _, n := range []int{math.MinInt, -1, 11, math.MaxInt} {
		out = append(out, api.Record{Op: api.Op{Code: n}})
	}
	for _, n := range []int{math.MinInt, -topValue - 1, topValue + 1, math.MaxInt} {
		out = append(out, api.Record{Op: api.Op{A: n}}, api.Record{Op: api.Op{B: n}})
	}
	for _, n := range []int{math.MinInt, -topResp - 1, topResp + 1, math.MaxInt} {
		out = append(out, api.Record{Resp: n})
	}
	return out
}

// P9.5: a record that does not fit, at the first place and at a later one; what comes behind it is not looked at.
func TestTakeOfARecordThatDoesNotFit(t *testing.T) {
	for _, wrong := range wrongRecords() {
		for _, place := range []int{0, 1, 2} {
			l := []api.Record{{Index: 300}, {Index: 301}, {Index: 302}}
			wrong.Index = 300 + place
			l[place] = wrong
			wantNotTaken(t, some(), l, api.ErrArg)
			wantNotTaken(t, some(), append(l, api.Record{Index: 7}), api.ErrArg)
		}
	}
	for _, index := range []int{math.MinInt, -1, 1 << 62, math.MaxInt} {
		s := some()
		s.Index = index
		wantNotTaken(t, s, []api.Record{{Index: index}}, api.ErrArg)
	}
}

// P9.5: behind the last index of all, at which a record fits, none does.
func TestTakeAtTheLastIndex(t *testing.T) {
	s := api.Snapshot{Index: topNumber, State: objs.Start(api.Counter)}
	r := api.Record{Index: topNumber, Proc: 64, Seq: topNumber, Op: api.Op{Code: api.Add, A: 1}, Resp: topResp}
	want := api.Snapshot{Index: 1 << 62, State: api.State{L: []int{1}}, Table: []api.Entry{{Proc: 64, Seq: topNumber}}}
	wantTaken(t, s, []api.Record{r}, want)
	if May(want) {
		t.Error("a snapshot at 2^62 may be")
	}
	wantNotTaken(t, s, []api.Record{r, {Index: 1 << 62}}, api.ErrArg)
	wantNotTaken(t, s, []api.Record{r, r}, api.ErrGap)
}

// P9.6: behind records, and others behind them, is behind all; and what may be may be behind records.
func TestTakeOfSomeAndThenOfOthers(t *testing.T) {
	for kind := range api.Kinds {
		s := api.Snapshot{Index: 12, State: objs.Start(kind)}
		l := chanceRecords(kind, 12, 60)
		l[50].Op = api.Op{Code: api.Seal, A: api.Replicas}
		all, err := Take(s, l)
		if err != api.OK || !May(all) {
			t.Errorf("Take: %v, error %d", all, err)
		}
		for cut := range len(l) + 1 {
			some, err := Take(s, l[:cut])
			if err != api.OK || some.Index != 12+cut || !May(some) {
				t.Errorf("Take of %d records: %v, error %d", cut, some, err)
			}
			b, _ := Encode(some)
			wantSnapshot(t, string(b), some)
			wantTaken(t, some, l[cut:], all)
		}
	}
}

// R3: what Note is handed stays as it was, also behind its end, and the table is the caller's own.
func TestWhatIsNotedStaysAsItWas(t *testing.T) {
	for _, table := range slices.Concat(goodTables(), toldTables(), untoldTables()) {
		for _, proc := range []int{-1, 0, 1, 3, 5, 63, 64, 65} {
			r := api.Record{Proc: proc, Seq: 6, Resp: 7}
			room := append(slices.Clone(table), api.Entry{Proc: 3, Seq: 1}, api.Entry{Proc: 4, Seq: 2})
			was := slices.Clone(room)
			got := Note(room[:len(table)], r)
			other := Note(room[:len(table)], r)
			spill(api.Snapshot{Table: other})
			if !slices.Equal(room, was) {
				t.Errorf("Note made %v of %v", room, was)
			}
			clear(room)
			if !slices.Equal(got, plainNote(table, r)) {
				t.Errorf("one answer of %v changed another", table)
			}
		}
	}
}

// R3: what Take is handed stays as it was, also behind its end, and the snapshot is the caller's own.
func TestWhatIsTakenStaysAsItWas(t *testing.T) {
	for kind := range api.Kinds {
		l := chanceRecords(kind, 0, 30)
		start, _ := Take(api.Snapshot{State: objs.Start(kind)}, l[:10])
		for count := range len(l) - 10 {
			room := own(start)
			room.State.L, room.Table = append(room.State.L, 1, 2, 3), append(room.Table, api.Entry{Proc: 1}, api.Entry{Proc: 2})
			lent, was := room, own(room)
			lent.State.L, lent.Table = room.State.L[:len(start.State.L)], room.Table[:len(start.Table)]
			records := slices.Clone(l)
			got, err := Take(lent, records[10:10+count])
			again, _ := Take(lent, records[10:10+count])
			if err != api.OK || !same(room, was) || !slices.Equal(records, l) {
				t.Errorf("Take made %v of %v, error %d", room, was, err)
			}
			want := own(got)
			spill(again)
			clear(room.State.L)
			clear(room.Table)
			clear(records)
			if !same(got, want) || !same(got, firstTaken(kind, l[:10+count])) {
				t.Errorf("kind %d, %d records: one answer changed another", kind, count)
			}
			spill(got)
		}
		wrong := slices.Clone(l)
		wrong[29].Proc = 65
		was := slices.Clone(wrong)
		wantNotTaken(t, api.Snapshot{State: objs.Start(kind)}, wrong, api.ErrArg)
		if !slices.Equal(wrong, was) {
			t.Error("Take changed records of which one does not fit")
		}
	}
}

// firstTaken is what records make of a kind's beginning, without Take.
func firstTaken(kind int, l []api.Record) api.Snapshot {
	s := api.Snapshot{State: objs.Start(kind)}
	for _, r := range l {
		s.State, r.Resp = objs.Step(s.State, r.Op)
		s.Table = plainNote(s.Table, r)
	}
	s.Index = len(l)
	return s
}

// R1: many records end.
func TestTakeOfManyRecords(t *testing.T) {
	for kind := range api.Kinds {
		l := chanceRecords(kind, 0, 20000)
		wantTaken(t, api.Snapshot{State: objs.Start(kind)}, l, firstTaken(kind, l))
	}
}
