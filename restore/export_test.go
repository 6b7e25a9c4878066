package restore

import (
	"math"
	"slices"
	"testing"

	"ferryman/api"
	"ferryman/objs"
	"ferryman/segment"
	"ferryman/store"
)

// P13.2: an export byte by byte.
func TestExportOfOneRecord(t *testing.T) {
	_, s := filled(t, api.Counter, []api.Record{{}})
	wantExport(t, s, api.Counter, 0, 1, framed("\x6c\x03\x00\x00")+framed("\x00\x01\x00\x00\x00\x00\x00\x00")+framed("\x01\x09"), api.OK)
	wantExport(t, s, api.Counter, 0, 0, framed("\x6c\x03\x00\x00")+framed("\x00"), api.OK)
	wantExport(t, s, api.Ledger, 1, 1, framed("\x6c\x03\x05\x01")+framed("\x00"), api.OK)
}

// P13.2: whole logs, and pieces of them, of each kind, however they stand on the disk.
func TestExport(t *testing.T) {
	for kind := range 6 {
		all := records(kind, 0, 90)
		_, s := busy(t, kind, true, false)
		for from := 0; from <= 90; from += 3 {
			for to := from; to <= 90; to++ {
				wantExport(t, s, kind, from, to, exportOf(kind, from, all[from:to]), api.OK)
			}
		}
		b, err := Export(s, kind, 4, 90)
		got, decodes := segment.Decode(b)
		wantOK(t, err, decodes)
		if got.Kind != kind || got.First != 4 || !slices.Equal(got.Records, all[4:]) {
			t.Errorf("kind %d: %v", kind, got)
		}
	}
}

// P13.2: no records, wherever there are none.
func TestExportOfNoRecords(t *testing.T) {
	_, s := filled(t, api.Queue, records(api.Queue, 0, 40))
	for from := range 41 {
		wantExport(t, s, api.Queue, from, from, headOf(3, api.Queue, from)+framed("\x00"), api.OK)
	}
	wantExport(t, s, api.Queue, 41, 41, "", api.ErrOutOfRange)
	wantExport(t, s, 6, 40, 40, "", api.ErrArg)
}

// P13.2: the kind is the one that is asked for, also one that is not the store's.
func TestExportOfEachKind(t *testing.T) {
	for its := range 6 {
		_, s := filled(t, its, adds(0, 20))
		for kind := range 6 {
			wantExport(t, s, kind, 0, 20, exportOf(kind, 0, adds(0, 20)), api.OK)
		}
		for _, kind := range []int{math.MinInt, -2, -1, 6, 7, math.MaxInt} {
			wantExport(t, s, kind, 0, 20, "", api.ErrArg)
			wantExport(t, s, kind, 3, 3, "", api.ErrArg)
		}
	}
}

// retained is a counter's store of records up to 9000, the first 1000 of which were let go.
func retained(t *testing.T) *store.Store {
	t.Helper()
	_, s := filled(t, api.Counter, adds(0, 1000))
	wantOK(t, s.Rotate(), s.Checkpoint(), s.Retain())
	for from := 1000; from < 9000; from += 250 {
		wantOK(t, s.Append(adds(from, 250)))
	}
	if s.First() != 1000 || s.Next() != 9000 {
		t.Fatal(s.First(), s.Next())
	}
	return s
}

// P13.2, R2, R4: where nothing is exported, and which error is told.
func TestExportThatFails(t *testing.T) {
	s := retained(t)
	for _, c := range []struct {
		from, to int
		want     api.Errno // with a right kind
	}{
		{-1, 2000, api.ErrOutOfRange}, {-1, -1, api.ErrOutOfRange}, {math.MinInt, 2000, api.ErrOutOfRange}, {math.MinInt, math.MaxInt, api.ErrOutOfRange},
		{2000, 1999, api.ErrOutOfRange}, {9000, 1000, api.ErrOutOfRange}, {2000, math.MinInt, api.ErrOutOfRange}, {9001, 9000, api.ErrOutOfRange},
		{8990, 9001, api.ErrOutOfRange}, {9000, 9001, api.ErrOutOfRange}, {9001, 9001, api.ErrOutOfRange}, {1000, math.MaxInt, api.ErrOutOfRange},
		{math.MaxInt, math.MaxInt, api.ErrOutOfRange}, {math.MaxInt, math.MinInt, api.ErrOutOfRange},
		{500, 400, api.ErrOutOfRange}, {500, 9001, api.ErrOutOfRange}, {0, math.MaxInt, api.ErrOutOfRange}, // also below First
		{0, 0, api.ErrCompacted}, {0, 9000, api.ErrCompacted}, {999, 999, api.ErrCompacted}, {999, 1000, api.ErrCompacted}, {999, 6000, api.ErrCompacted},
		{1000, 5097, api.ErrTooLarge}, {1000, 9000, api.ErrTooLarge}, {4903, 9000, api.ErrTooLarge}, {2000, 6097, api.ErrTooLarge},
		{1000, 5096, api.OK}, {4904, 9000, api.OK}, {2000, 6096, api.OK}, {1000, 1000, api.OK}, {9000, 9000, api.OK}, {8999, 9000, api.OK},
	} {
		want := ""
		if c.want == api.OK {
			want = exportOf(api.Counter, c.from, adds(c.from, c.to-c.from))
		}
		wantExport(t, s, api.Counter, c.from, c.to, want, c.want)
		for _, kind := range []int{-1, 6} {
			if c.want == api.OK {
				wantExport(t, s, kind, c.from, c.to, "", api.ErrArg)
			} else {
				wantExport(t, s, kind, c.from, c.to, "", c.want)
			}
		}
	}
}

// P13.2: behind the greatest index no segment begins.
func TestExportAtTheGreatestIndex(t *testing.T) {
	base := api.Snapshot{Index: topNumber, State: objs.Start(api.Counter)}
	s := opened(t, diskOf(t, map[int]string{3: checkpointOf(base)}), api.Counter)
	r := api.Record{Index: topNumber, Op: api.Op{Code: api.Add, A: 5}}
	wantExport(t, s, api.Counter, topNumber, topNumber, exportOf(0, topNumber, nil), api.OK)
	wantExport(t, s, api.Counter, topNumber, topNumber+1, "", api.ErrOutOfRange)
	wantOK(t, s.Append([]api.Record{r}))
	wantExport(t, s, api.Counter, topNumber, topNumber+1, exportOf(0, topNumber, []api.Record{r}), api.OK)
	wantExport(t, s, api.Counter, topNumber+1, topNumber+1, "", api.ErrArg)
	wantExport(t, s, api.Counter, topNumber-1, topNumber+1, "", api.ErrCompacted)
}

// P13.2: nothing is asked of the disk, and nothing is changed; records that are not synced are exported, too.
func TestExportWhileThePowerIsOut(t *testing.T) {
	d, s := filled(t, api.Counter, adds(0, 40))
	if s.Synced() != 0 {
		t.Fatal(s.Synced())
	}
	for _, cut := range []int{1, 0} {
		d.Cut(cut)
		wantUnchanged(t, d, s, func() {
			wantExport(t, s, api.Counter, 0, 40, exportOf(0, 0, adds(0, 40)), api.OK)
			wantExport(t, s, api.Counter, 0, 41, "", api.ErrOutOfRange)
		})
	}
}

// R3: what Export answers is the caller's own.
func TestWhatExportAnswersIsTheCallersOwn(t *testing.T) {
	d, s := filled(t, api.Counter, adds(0, 40))
	wantUnchanged(t, d, s, func() {
		b, _ := Export(s, api.Counter, 0, 40)
		other, _ := Export(s, api.Counter, 0, 40)
		for i := range b {
			b[i] = 0xff
		}
		_ = append(b, "behind"...)
		if string(other) != exportOf(0, 0, adds(0, 40)) {
			t.Error("two answers share something")
		}
		wantExport(t, s, api.Counter, 0, 40, string(other), api.OK)
	})
}
