package delta

import (
	"math"
	"math/rand/v2"
	"slices"
	"testing"

	"ferryman/api"
	"ferryman/objs"
	"ferryman/snapshot"
)

// wantDiff asks of Diff that delta.
func wantDiff(t *testing.T, a, b api.Snapshot, want api.Delta) {
	t.Helper()
	if d, err := Diff(a, b); err != api.OK || !same(d, want) {
		t.Errorf("Diff(%v, %v) = %v, error %d, want %v", a, b, d, err, want)
	}
}

// wantNoDiff asks of Diff that error, and the zero Delta (R4).
func wantNoDiff(t *testing.T, a, b api.Snapshot, want api.Errno) {
	t.Helper()
	if d, err := Diff(a, b); err != want || !isZero(d) {
		t.Errorf("Diff(%v, %v) = %v, error %d, want error %d", a, b, d, err, want)
	}
}

// wantApplied asks of Apply that snapshot.
func wantApplied(t *testing.T, a api.Snapshot, d api.Delta, want api.Snapshot) {
	t.Helper()
	if s, err := Apply(a, d); err != api.OK || !snapshot.Same(s, want) {
		t.Errorf("Apply(%v, %v) = %v, error %d, want %v", a, d, s, err, want)
	}
}

// wantNotApplied asks of Apply that error, and the zero Snapshot (R4).
func wantNotApplied(t *testing.T, a api.Snapshot, d api.Delta, want api.Errno) {
	t.Helper()
	if s, err := Apply(a, d); err != want || !snapshot.Same(s, api.Snapshot{}) {
		t.Errorf("Apply(%v, %v) = %v, error %d, want error %d", a, d, s, err, want)
	}
}

// wantAsTold asks of Diff what the chapter's words say, of its delta that it may be, and of Apply the later snapshot.
func wantAsTold(t *testing.T, a, b api.Snapshot) api.Errno {
	t.Helper()
	want, err := plainDiff(a, b)
	if err != api.OK {
		wantNoDiff(t, a, b, err)
		return err
	}
	wantDiff(t, a, b, want)
	d, _ := Diff(a, b)
	wantApplied(t, a, d, b)
	wantEncoded(t, d)
	return err
}

func line(kind, index int, l ...int) api.Snapshot {
	return api.Snapshot{Index: index, State: api.State{Kind: kind, L: l}}
}

// P10.1: the chapter's examples.
func TestDiffOfTheExamples(t *testing.T) {
	wantDiff(t, line(api.Queue, 5, 1, 2, 3), line(api.Queue, 7, 2, 3, 4), api.Delta{From: 5, To: 7, Mid: []int{2, 3, 4}})
	wantDiff(t, line(api.Stack, 5, 1, 2), line(api.Stack, 7, 1, 2, 9), api.Delta{From: 5, To: 7, Ahead: 2, Mid: []int{9}})
}

// P10.1: what both begin with, what both end with of those that are left, and what is left of the later one's.
func TestDiffOfNumbers(t *testing.T) {
	for _, c := range []struct {
		old, now      []int
		ahead, behind int
		mid           []int
	}{
		{nil, nil, 0, 0, nil},
		{nil, []int{1}, 0, 0, []int{1}},
		{[]int{1}, nil, 0, 0, nil},
		{[]int{1}, []int{1}, 1, 0, nil},
		{[]int{1}, []int{2}, 0, 0, []int{2}},
		{[]int{1, 2, 3}, []int{1, 2, 3}, 3, 0, nil},
		{[]int{1, 2, 3}, []int{1, 2}, 2, 0, nil},
		{[]int{1, 2, 3}, []int{2, 3}, 0, 2, nil},
		{[]int{1, 2, 3}, []int{1, 3}, 1, 1, nil},
		{[]int{1, 3}, []int{1, 2, 3}, 1, 1, []int{2}},
		{[]int{1, 2, 3}, []int{1, 7, 8, 3}, 1, 1, []int{7, 8}},
		{[]int{1, 7, 8, 3}, []int{1, 2, 3}, 1, 1, []int{2}},
		{[]int{1, 2, 3, 4}, []int{1, 9, 4}, 1, 1, []int{9}},
		{[]int{2, 3}, []int{1, 2, 3}, 0, 2, []int{1}},
		{[]int{1, 2}, []int{2, 1}, 0, 0, []int{2, 1}},
		// what both begin with and what both end with would lie over each other
		{[]int{1, 1}, []int{1}, 1, 0, nil},
		{[]int{1}, []int{1, 1}, 1, 0, []int{1}},
		{[]int{1, 1}, []int{1, 1, 1}, 2, 0, []int{1}},
		{[]int{1, 1, 1}, []int{1, 1}, 2, 0, nil},
		{[]int{1, 1, 1, 1}, []int{1, 1, 2, 1, 1}, 2, 2, []int{2}},
		{[]int{1, 2, 1}, []int{1, 2, 1, 2, 1}, 3, 0, []int{2, 1}},
		{[]int{1, 2, 1, 2, 1}, []int{1, 2, 1}, 3, 0, nil},
		{[]int{1, 2, 3, 1, 2}, []int{1, 2, 3, 1, 2, 3, 1, 2}, 5, 0, []int{3, 1, 2}},
		{[]int{1, 2, 2, 3}, []int{1, 2, 2, 2, 3}, 3, 1, []int{2}},
		{[]int{1, 2, 2, 2, 3}, []int{1, 2, 2, 3}, 3, 1, nil},
		{[]int{5, 5, 5, 7}, []int{5, 5, 7}, 2, 1, nil},
	} {
		for _, kind := range []int{api.Queue, api.Stack} {
			a, b := line(kind, 3, c.old...), line(kind, 4, c.now...)
			wantDiff(t, a, b, api.Delta{From: 3, To: 4, Ahead: c.ahead, Behind: c.behind, Mid: c.mid})
			wantAsTold(t, a, b)
		}
	}
}

// P10.1, P10.5: every two snapshots of each kind, by the chapter's words; and of two kinds.
func TestDiffOfEachKind(t *testing.T) {
	told := map[api.Errno]int{}
	for kind := range api.Kinds {
		for _, a := range snapshotsOf(kind) {
			for _, b := range snapshotsOf(kind) {
				told[wantAsTold(t, a, b)]++
				b.Index, b.Table = a.Index+5, slices.Clone(a.Table)
				told[wantAsTold(t, a, b)]++
			}
			for other := range api.Kinds {
				if b := snapshotsOf(other)[0]; other != kind {
					wantNoDiff(t, a, b, api.ErrArg)
					wantNoDiff(t, b, a, api.ErrArg)
				}
			}
		}
	}
	if told[api.OK] < 500 || told[api.ErrGap] < 500 {
		t.Error(told)
	}
}

// P10.1: two kinds whose numbers may be the other one's too, and that are behind or lack an entry as well.
func TestDiffOfTwoKinds(t *testing.T) {
	for _, kinds := range [][2]int{{api.Counter, api.Register}, {api.Queue, api.Stack}, {api.Store, api.Ledger}, {api.Queue, api.Store}} {
		for _, kinds := range [][2]int{kinds, {kinds[1], kinds[0]}} {
			a, b := api.Snapshot{Index: 9, State: objs.Start(kinds[0])}, api.Snapshot{Index: 9, State: objs.Start(kinds[1])}
			wantNoDiff(t, a, b, api.ErrArg)
			a.Index = 10
			wantNoDiff(t, a, b, api.ErrArg)
			a.Table = []api.Entry{{Proc: 1}}
			wantNoDiff(t, a, b, api.ErrArg)
			b.State.Kind = kinds[0]
			wantNoDiff(t, a, b, api.ErrGap)
		}
	}
}

// P10.1: a snapshot that may not be, as the first and as the second one, and as both, whatever else is wrong.
func TestDiffOfWhatMayNotBe(t *testing.T) {
	for _, wrong := range wrongSnapshots() {
		if snapshot.May(wrong) {
			t.Fatalf("%v may be", wrong)
		}
		good := someSnapshot()
		wantNoDiff(t, wrong, wrong, api.ErrArg)
		for _, index := range []int{0, 20, topNumber} {
			good.Index = index
			wantNoDiff(t, wrong, good, api.ErrArg)
			wantNoDiff(t, good, wrong, api.ErrArg)
		}
		good.Table = nil
		wantNoDiff(t, wrong, good, api.ErrArg)
		wantNoDiff(t, good, wrong, api.ErrArg)
	}
}

// P10.1: an index that is greater, the same, and less.
func TestDiffOfIndices(t *testing.T) {
	numbers := []int{0, 1, 2, 127, 128, 1 << 32, topNumber - 1, topNumber}
	for _, from := range numbers {
		for _, to := range numbers {
			a, b := someSnapshot(), someSnapshot()
			a.Index, b.Index = from, to
			if from > to {
				wantNoDiff(t, a, b, api.ErrGap)
				continue
			}
			wantDiff(t, a, b, api.Delta{From: from, To: to, Ahead: 4})
			wantAsTold(t, a, b)
		}
	}
}

// P10.1: entries that are new, others, and the same; and a process that the later table has not.
func TestDiffOfTables(t *testing.T) {
	e := func(proc, seq, resp int) api.Entry { return api.Entry{Proc: proc, Seq: seq, Resp: resp} }
	type table = []api.Entry
	for _, c := range []struct{ old, now, want table }{
		{nil, nil, nil},
		{nil, table{e(2, 1, 0)}, table{e(2, 1, 0)}},
		{table{e(2, 1, 0)}, table{e(2, 1, 0)}, nil},
		{table{e(2, 1, 0)}, table{e(2, 2, 0)}, table{e(2, 2, 0)}},
		{table{e(2, 1, 0)}, table{e(2, 1, 1)}, table{e(2, 1, 1)}},
		{table{e(2, 5, 0)}, table{e(2, 4, 0)}, table{e(2, 4, 0)}}, // a Seq that is less is another one too
		{table{e(2, 1, 0)}, table{e(1, 1, 0), e(2, 1, 0), e(3, 1, 0)}, table{e(1, 1, 0), e(3, 1, 0)}},
		{table{e(0, 1, 0), e(64, 1, 0)}, table{e(0, 2, 0), e(5, 1, 0), e(64, 1, 0)}, table{e(0, 2, 0), e(5, 1, 0)}},
		{table{e(0, 1, 0), e(1, 1, 0)}, table{e(0, 1, 0), e(1, 2, 0), e(3, 1, 0)}, table{e(1, 2, 0), e(3, 1, 0)}},
		{table{e(1, 7, 7), e(2, 8, 8)}, table{e(1, 8, 8), e(2, 7, 7)}, table{e(1, 8, 8), e(2, 7, 7)}},
		{tableOf(65), tableOf(65), nil},
		{nil, tableOf(65), tableOf(65)},
		{tableOf(64), tableOf(65), tableOf(65)[64:]},
	} {
		a, b := line(api.Queue, 3, 1), line(api.Queue, 3, 1)
		a.Table, b.Table = c.old, c.now
		wantDiff(t, a, b, api.Delta{From: 3, To: 3, Ahead: 1, Table: c.want})
		wantAsTold(t, a, b)
	}
	for _, c := range [][2]table{
		{{e(2, 1, 0)}, nil}, {{e(2, 1, 0)}, {}}, {{e(2, 1, 0)}, {e(1, 1, 0), e(3, 1, 0)}}, {{e(1, 1, 0), e(2, 1, 0)}, {e(1, 1, 0)}}, {{e(1, 1, 0), e(2, 1, 0)}, {e(2, 1, 0)}},
		{{e(0, 0, 0)}, {e(1, 0, 0)}}, {{e(64, 1, 0)}, tableOf(64)}, {tableOf(65), tableOf(64)}, {tableOf(65), tableOf(65)[1:]},
	} {
		a, b := line(api.Queue, 3, 1), line(api.Queue, 4, 1)
		a.Table, b.Table = c[0], c[1]
		wantNoDiff(t, a, b, api.ErrGap)
	}
}

// P10.1: the seal is the later one's, whatever the earlier one's was.
func TestDiffOfSeals(t *testing.T) {
	seals := []api.State{{}, {Sealed: true}, {Sealed: true, To: 1}, {Sealed: true, To: 2}}
	for _, old := range seals {
		for _, now := range seals {
			a, b := line(api.Register, 1, 5), line(api.Register, 2, 6)
			a.State.Sealed, a.State.To, b.State.Sealed, b.State.To = old.Sealed, old.To, now.Sealed, now.To
			wantDiff(t, a, b, api.Delta{From: 1, To: 2, Mid: []int{6}, Sealed: now.Sealed, Engine: now.To})
			wantAsTold(t, a, b)
		}
	}
}

// chanceSnapshot is one of few numbers and few processes, so that two of them are much alike.
func chanceSnapshot(chance *rand.Rand) api.Snapshot {
	s := api.Snapshot{Index: chance.IntN(4), State: api.State{Kind: api.Queue + chance.IntN(2)*chance.IntN(2)}}
	for range chance.IntN(9) {
		s.State.L = append(s.State.L, chance.IntN(2))
	}
	for proc := range 4 {
		if chance.IntN(3) > 0 {
			s.Table = append(s.Table, api.Entry{Proc: proc, Seq: chance.IntN(2), Resp: chance.IntN(2)})
		}
	}
	if chance.IntN(4) == 0 {
		s.State.Sealed, s.State.To = true, chance.IntN(3)
	}
	return s
}

// P10.1, P10.5: snapshots by chance, by the chapter's words.
func TestDiffByTheChaptersWords(t *testing.T) {
	chance := rand.New(rand.NewPCG(1, 1)) // the same numbers in every run
	told := map[api.Errno]int{}
	for range 20000 {
		told[wantAsTold(t, chanceSnapshot(chance), chanceSnapshot(chance))]++
	}
	if told[api.OK] < 1000 || told[api.ErrArg] < 1000 || told[api.ErrGap] < 1000 {
		t.Error(told)
	}
}

// P10.5: of the same snapshot, of one step, of several, and of several deltas one behind the other.
func TestApplyOfDiffIsTheLaterOne(t *testing.T) {
	for kind := range api.Kinds {
		all := states(kind)
		now := all[0]
		for i, a := range all {
			for _, b := range all[i:] {
				if err := wantAsTold(t, a, b); err != api.OK {
					t.Errorf("Diff: error %d", err)
				}
			}
			d, _ := Diff(now, a)
			now, _ = Apply(now, d)
			if !snapshot.Same(now, a) {
				t.Errorf("kind %d: %v behind deltas, want %v", kind, now, a)
			}
			if i > 0 {
				wantNoDiff(t, a, all[i-1], api.ErrGap)
				wantNotApplied(t, a, d, api.ErrGap)
			}
		}
	}
}

// P10.2: numbers, seals and entries, by hand.
func TestApplyByHand(t *testing.T) {
	a := someSnapshot()
	wantApplied(t, a, leave(), a)
	later := func(change func(s *api.Snapshot)) api.Snapshot {
		s := someSnapshot()
		change(&s)
		return s
	}
	wantApplied(t, a, api.Delta{From: 20, To: 33, Ahead: 4}, later(func(s *api.Snapshot) { s.Index = 33 }))
	wantApplied(t, a, api.Delta{From: 20, To: topNumber, Behind: 4}, later(func(s *api.Snapshot) { s.Index = topNumber }))
	for _, c := range []struct {
		ahead, behind int
		mid, want     []int
	}{
		{0, 0, nil, nil}, {0, 0, []int{9, 8}, []int{9, 8}}, {1, 0, nil, []int{1}}, {0, 1, nil, []int{4}}, {1, 1, []int{}, []int{1, 4}}, {1, 2, []int{9}, []int{1, 9, 3, 4}}, {2, 1, []int{9}, []int{1, 2, 9, 4}},
		{4, 0, []int{9}, []int{1, 2, 3, 4, 9}}, {0, 4, []int{9}, []int{9, 1, 2, 3, 4}}, {2, 2, []int{9}, []int{1, 2, 9, 3, 4}}, {3, 0, nil, []int{1, 2, 3}}, {0, 3, nil, []int{2, 3, 4}},
	} {
		d := api.Delta{From: 20, To: 21, Ahead: c.ahead, Behind: c.behind, Mid: c.mid}
		wantApplied(t, a, d, later(func(s *api.Snapshot) { s.Index, s.State.L = 21, c.want }))
	}
	for engine := range 3 {
		d := leave()
		d.Sealed, d.Engine = true, engine
		sealed := later(func(s *api.Snapshot) { s.State.Sealed, s.State.To = true, engine })
		wantApplied(t, a, d, sealed)
		wantApplied(t, sealed, leave(), a) // the seal is the delta's alone
	}
}

// P10.2: entry by entry, in order: in the place of the one of that process, or among the others.
func TestApplyOfTables(t *testing.T) {
	e := func(proc, seq int) api.Entry { return api.Entry{Proc: proc, Seq: seq, Resp: 10 * seq} }
	type table = []api.Entry
	for _, c := range []struct{ old, news, want table }{
		{nil, nil, nil},
		{table{e(1, 1), e(3, 1)}, nil, table{e(1, 1), e(3, 1)}},
		{nil, table{e(3, 1)}, table{e(3, 1)}},
		{table{e(3, 1)}, table{e(3, 2)}, table{e(3, 2)}},
		{table{e(3, 2)}, table{e(3, 1)}, table{e(3, 1)}},
		{table{e(1, 1), e(3, 1)}, table{e(0, 2)}, table{e(0, 2), e(1, 1), e(3, 1)}},
		{table{e(1, 1), e(3, 1)}, table{e(2, 2)}, table{e(1, 1), e(2, 2), e(3, 1)}},
		{table{e(1, 1), e(3, 1)}, table{e(64, 2)}, table{e(1, 1), e(3, 1), e(64, 2)}},
		{table{e(1, 1), e(3, 1)}, table{e(1, 2), e(2, 2), e(3, 2)}, table{e(1, 2), e(2, 2), e(3, 2)}},
		// entries that do not rise, and several of one process: the last one stays
		{table{e(1, 1), e(3, 1)}, table{e(5, 2), e(3, 2), e(0, 2)}, table{e(0, 2), e(1, 1), e(3, 2), e(5, 2)}},
		{table{e(1, 1)}, table{e(1, 2), e(1, 3), e(1, 2)}, table{e(1, 2)}},
		{nil, table{e(2, 1), e(1, 1), e(2, 3)}, table{e(1, 1), e(2, 3)}},
		// an entry that may not be is none of the table any more behind another one of its process
		{nil, table{e(2, -1), e(2, 3)}, table{e(2, 3)}},
		{tableOf(65), tableOf(65), tableOf(65)},
		{nil, tableOf(65), tableOf(65)},
		{tableOf(64), tableOf(65)[64:], tableOf(65)},
		{tableOf(65), append(slices.Repeat(table{e(7, 7)}, 5000), tableOf(65)[7]), tableOf(65)},
	} {
		a, want := line(api.Stack, 3, 1), line(api.Stack, 4, 1)
		a.Table, want.Table = c.old, c.want
		wantApplied(t, a, api.Delta{From: 3, To: 4, Ahead: 1, Table: c.news}, want)
	}
}

// P10.2: Ahead or Behind below 0, and together more than the numbers, just as many, and fewer; also where their sum goes round.
func TestApplyOfWrongCuts(t *testing.T) {
	for _, count := range []int{0, 1, 2, 5, 64} {
		a := line(api.Queue, 20, make([]int, count)...)
		numbers := []int{math.MinInt, math.MinInt + 1, -1 << 62, -2, -1, 0, 1, 2, 3, count - 1, count, count + 1, 64, 65, 1 << 32, topNumber, 1 << 62, math.MaxInt - 1, math.MaxInt}
		for _, ahead := range numbers {
			for _, behind := range numbers {
				for _, d := range []api.Delta{{From: 20, To: 20, Ahead: ahead, Behind: behind}, {From: 19, To: 3, Ahead: ahead, Behind: behind}} {
					fits := ahead >= 0 && behind >= 0 && ahead <= count && behind <= count && ahead+behind <= count
					switch {
					case !fits:
						wantNotApplied(t, a, d, api.ErrArg)
					case d.From != 20:
						wantNotApplied(t, a, d, api.ErrGap)
					default:
						wantApplied(t, a, d, line(api.Queue, 20, make([]int, ahead+behind)...))
					}
				}
			}
		}
	}
}

// P10.2: From that is not the Index, and To less than From.
func TestApplyOfAGap(t *testing.T) {
	for _, n := range []int{math.MinInt, -1 << 62, -20, -1, 0, 1, 19, 21, 1 << 32, topNumber, 1 << 62, math.MaxInt} {
		d := leave()
		d.From = n
		wantNotApplied(t, someSnapshot(), d, api.ErrGap)
		d.To = n
		wantNotApplied(t, someSnapshot(), d, api.ErrGap)
		d.Mid, d.Engine = make([]int, 200), 7 // of which may not be what comes of it either
		wantNotApplied(t, someSnapshot(), d, api.ErrGap)
	}
	for _, n := range []int{math.MinInt, -1, 0, 1, 19} {
		d := leave()
		d.To = n
		wantNotApplied(t, someSnapshot(), d, api.ErrGap)
		d.Table = []api.Entry{{Proc: 65}}
		wantNotApplied(t, someSnapshot(), d, api.ErrGap)
	}
	for _, n := range []int{20, 21, topNumber} {
		d, want := leave(), someSnapshot()
		d.To, want.Index = n, n
		wantApplied(t, someSnapshot(), d, want)
	}
}

// P10.2: a snapshot that may not be, whatever the delta is.
func TestApplyToWhatMayNotBe(t *testing.T) {
	for _, wrong := range wrongSnapshots() {
		d := leave()
		d.From, d.To = wrong.Index, wrong.Index
		wantNotApplied(t, wrong, d, api.ErrArg)
		wantNotApplied(t, wrong, api.Delta{From: wrong.Index, To: wrong.Index, Mid: []int{0}}, api.ErrArg)
		wantNotApplied(t, wrong, leave(), api.ErrArg)
		wantNotApplied(t, wrong, api.Delta{From: 5, To: 4}, api.ErrArg)
	}
}

// P10.2: what comes of it may not be, by the index, the numbers, the seal and the table.
func TestApplyOfWhatWouldNotBe(t *testing.T) {
	with := func(change func(d *api.Delta)) {
		t.Helper()
		d := leave()
		change(&d)
		wantNotApplied(t, someSnapshot(), d, api.ErrArg)
	}
	for _, n := range []int{1 << 62, 1<<62 + 1, math.MaxInt} {
		with(func(d *api.Delta) { d.To = n })
	}
	with(func(d *api.Delta) { d.Mid = []int{topValue + 1} })
	with(func(d *api.Delta) { d.Mid = []int{1, -topValue - 1} })
	with(func(d *api.Delta) { d.Mid = make([]int, 61) })
	with(func(d *api.Delta) { d.Ahead, d.Behind, d.Mid = 0, 0, make([]int, 65) })
	with(func(d *api.Delta) { d.Engine = 1 })
	with(func(d *api.Delta) { d.Engine = -1 })
	with(func(d *api.Delta) { d.Sealed, d.Engine = true, 3 })
	with(func(d *api.Delta) { d.Sealed, d.Engine = true, -1 })
	for _, e := range []api.Entry{{Proc: -1}, {Proc: 65}, {Proc: math.MinInt}, {Proc: math.MaxInt}, {Proc: 2, Seq: -1}, {Proc: 2, Seq: 1 << 62}, {Proc: 2, Resp: topResp + 1}, {Proc: 2, Resp: -topResp - 1}} {
		with(func(d *api.Delta) { d.Table = []api.Entry{e} })
		with(func(d *api.Delta) { d.Table = []api.Entry{{Proc: 0}, e, {Proc: 4}} })
		with(func(d *api.Delta) { d.Table = slices.Concat([]api.Entry{e}, tableOf(65)[3:], tableOf(2)) })
	}
	full := leave()
	full.Mid = make([]int, 60)
	wantApplied(t, someSnapshot(), full, line60())
}

// line60 is someSnapshot with as many numbers as there may be, sixty of them noughts in the midst.
func line60() api.Snapshot {
	s := someSnapshot()
	s.State.L = slices.Concat([]int{1, 2}, make([]int, 60), []int{3, 4})
	return s
}

// P10.2: numbers of which each kind has its own bounds.
func TestApplyOfEachKindsBounds(t *testing.T) {
	for _, c := range []struct {
		kind int
		old  []int
		d    api.Delta
		want []int // nil: ErrArg
	}{
		{api.Counter, []int{5}, api.Delta{Mid: []int{6}}, []int{6}},
		{api.Counter, []int{5}, api.Delta{Ahead: 1}, []int{5}},
		{api.Counter, []int{5}, api.Delta{}, nil},
		{api.Register, []int{5}, api.Delta{Behind: 1, Mid: []int{6}}, nil},
		{api.Store, []int{1, 1}, api.Delta{Behind: 2, Mid: []int{0, -1}}, []int{0, -1, 1, 1}},
		{api.Store, []int{1, 1}, api.Delta{Behind: 2, Mid: []int{1, -1}}, nil},
		{api.Store, []int{1, 1}, api.Delta{Ahead: 1, Mid: []int{9}}, []int{1, 9}},
		{api.Store, []int{1, 1}, api.Delta{Ahead: 1}, nil},
		{api.Store, []int{1, 1}, api.Delta{Ahead: 2, Mid: []int{256, 0}}, nil},
		{api.Store, pairs(64, 0, 1), api.Delta{Ahead: 128, Mid: []int{64, 1}}, nil},
		{api.Store, pairs(63, 0, 1), api.Delta{Ahead: 126, Mid: []int{64, 1}}, append(pairs(63, 0, 1), 64, 1)},
		{api.Ledger, []int{1, 1}, api.Delta{Ahead: 1, Mid: []int{-1}}, nil},
		{api.Ledger, []int{1, 1}, api.Delta{Ahead: 1, Mid: []int{topValue}}, []int{1, topValue}},
	} {
		a := line(c.kind, 0, c.old...)
		if c.want == nil {
			wantNotApplied(t, a, c.d, api.ErrArg)
			continue
		}
		wantApplied(t, a, c.d, line(c.kind, 0, c.want...))
	}
}

// P10.2, R2: deltas by chance, by the chapter's words.
func TestApplyByTheChaptersWords(t *testing.T) {
	chance := rand.New(rand.NewPCG(2, 2)) // the same numbers in every run
	told := map[api.Errno]int{}
	for range 40000 {
		a := chanceSnapshot(chance)
		if chance.IntN(10) == 0 {
			a = wrongSnapshots()[chance.IntN(8)]
		}
		d := api.Delta{From: a.Index, To: a.Index + chance.IntN(3), Ahead: chance.IntN(4), Behind: chance.IntN(4)}
		for range chance.IntN(5) {
			d.Mid = append(d.Mid, chance.IntN(5))
			d.Table = append(d.Table, api.Entry{Proc: chance.IntN(6), Seq: chance.IntN(9), Resp: chance.IntN(9)})
		}
		switch chance.IntN(12) {
		case 0:
			d.From++
		case 1:
			d.To = d.From - 1
		case 2:
			d.Ahead = -1
		case 3:
			d.Table = append(d.Table, api.Entry{Proc: 64 + chance.IntN(2)})
		case 4:
			d.Engine = chance.IntN(4)
		case 5:
			d.Sealed, d.Engine = true, chance.IntN(4)
		}
		want, err := plainApply(a, d)
		told[err]++
		if err != api.OK {
			wantNotApplied(t, a, d, err)
			continue
		}
		wantApplied(t, a, d, want)
	}
	if told[api.OK] < 1000 || told[api.ErrArg] < 1000 || told[api.ErrGap] < 1000 {
		t.Error(told)
	}
}

// roomySnapshot is s with lists that have room behind their ends, and what stands there.
func roomySnapshot(s api.Snapshot) (lent, room api.Snapshot) {
	room = ownSnapshot(s)
	room.State.L, room.Table = append(room.State.L, 1, 2, 3), append(room.Table, api.Entry{Proc: 1}, api.Entry{Proc: -2})
	lent = room
	lent.State.L, lent.Table = room.State.L[:len(s.State.L)], room.Table[:len(s.Table)]
	return lent, room
}

// spillSnapshot writes over all that a snapshot's lists have room for.
func spillSnapshot(s api.Snapshot) {
	spill(api.Delta{Mid: s.State.L, Table: s.Table})
}

// R3: what Diff is handed stays as it was, also behind its end, and the delta is the caller's own.
func TestWhatDiffIsHandedStaysAsItWas(t *testing.T) {
	for kind := range api.Kinds {
		all := append(snapshotsOf(kind), states(kind)[40:]...)
		for _, first := range all {
			for _, second := range all {
				a, roomA := roomySnapshot(first)
				b, roomB := roomySnapshot(second)
				wasA, wasB := ownSnapshot(roomA), ownSnapshot(roomB)
				got, err := Diff(a, b)
				again, _ := Diff(a, b)
				if !snapshot.Same(roomA, wasA) || !snapshot.Same(roomB, wasB) {
					t.Errorf("Diff made %v of %v, %v of %v", roomA, wasA, roomB, wasB)
				}
				spill(again)
				if !snapshot.Same(roomA, wasA) || !snapshot.Same(roomB, wasB) {
					t.Errorf("what Diff(%v, %v) answers is not the caller's own", first, second)
				}
				spillSnapshot(roomA)
				spillSnapshot(roomB)
				if want, fault := plainDiff(first, second); err != fault || !same(got, want) {
					t.Errorf("what Diff(%v, %v) answered became %v", first, second, got)
				}
			}
		}
	}
}

// R3: what Apply is handed stays as it was, also behind its end, and the snapshot is the caller's own.
func TestWhatApplyIsHandedStaysAsItWas(t *testing.T) {
	deltas := []api.Delta{leave(), {From: 20, To: 20, Ahead: 4}, {From: 20, To: 20, Behind: 4}, {From: 20, To: 20, Mid: []int{5, 6}}, {From: 19}, {From: 20, To: 20, Ahead: 5}, {From: 20, To: 20, Engine: 2}}
	deltas = append(deltas, api.Delta{From: 20, To: 30, Ahead: 1, Mid: []int{7}, Behind: 1, Table: []api.Entry{{Proc: 3, Seq: 9}, {Proc: 2, Seq: 1}, {Proc: 60}}})
	deltas = append(deltas, api.Delta{From: 20, To: 30, Ahead: 2, Table: []api.Entry{{Proc: 3, Seq: 9}, {Proc: 66}}})
	for _, change := range deltas {
		for _, first := range []api.Snapshot{someSnapshot(), line60(), {Index: 20, State: objs.Start(api.Queue)}} {
			a, roomA := roomySnapshot(first)
			d, roomD := roomy(change)
			wasA, wasD := ownSnapshot(roomA), own(roomD)
			got, err := Apply(a, d)
			again, _ := Apply(a, d)
			if !snapshot.Same(roomA, wasA) || !same(roomD, wasD) {
				t.Errorf("Apply made %v of %v, %v of %v", roomA, wasA, roomD, wasD)
			}
			spillSnapshot(again)
			if !snapshot.Same(roomA, wasA) || !same(roomD, wasD) {
				t.Errorf("what Apply(%v, %v) answers is not the caller's own", first, change)
			}
			spillSnapshot(roomA)
			spill(roomD)
			if want, fault := plainApply(first, change); err != fault || !snapshot.Same(got, want) {
				t.Errorf("what Apply(%v, %v) answered became %v", first, change, got)
			}
		}
	}
}

// R1: great deltas end, also with entries of ever more processes.
func TestApplyOfGreatDeltas(t *testing.T) {
	var many []api.Entry
	for i := range 1 << 20 {
		many = append(many, api.Entry{Proc: i})
	}
	d := leave()
	d.Table = many
	wantNotApplied(t, someSnapshot(), d, api.ErrArg)
	slices.Reverse(many)
	wantNotApplied(t, someSnapshot(), d, api.ErrArg)
	d.Table = many[len(many)-65:]
	if s, err := Apply(someSnapshot(), d); err != api.OK || len(s.Table) != 65 {
		t.Error(s, err)
	}
	d = leave()
	d.Mid = make([]int, 1<<20)
	wantNotApplied(t, someSnapshot(), d, api.ErrArg)
	a := someSnapshot()
	a.Table = many
	wantNotApplied(t, a, leave(), api.ErrArg)
	wantNoDiff(t, a, a, api.ErrArg)
}
