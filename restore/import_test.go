package restore

import (
	"bytes"
	"fmt"
	"math"
	"slices"
	"testing"

	"ferryman/api"
	"ferryman/files"
	"ferryman/objs"
	"ferryman/segment"
)

// P13.3: how many are new, and the blocks that they are appended by: from Next on, sixteen by sixteen, each by one call of the disk, and none of them synced.
func TestImportSixteenBySixteen(t *testing.T) {
	for _, have := range []int{0, 1, 5, 15, 16, 17, 40} {
		for _, count := range []int{0, 1, 2, 15, 16, 17, 31, 32, 33, 47, 48, 49, 100} {
			for first := 0; first <= have; first += 1 + have/4 {
				d, s := filled(t, api.Counter, adds(0, have))
				d.Cut(len(sixteens(adds(have, count))) + 1)
				wantImport(t, s, api.Counter, segmentOf(3, 0, first, adds(first, have-first+count)), count, api.OK)
				wantLog(t, s, adds(0, have+count))
				if s.Synced() != 0 || !d.On() {
					t.Errorf("%d behind %d: synced %d, on %t", count, have, s.Synced(), d.On())
				}
				if have+count == 0 {
					continue
				}
				blocks := sixteens(adds(have, count))
				if have > 0 {
					blocks = append([][]api.Record{adds(0, have)}, blocks...)
				}
				wantFile(t, d, 2, fileOf(0, 0, blocks...))
				if d.Sync(2); d.On() {
					t.Errorf("%d behind %d: fewer calls of the disk", count, have)
				}
			}
		}
	}
}

// P13.3: all, some and none of the records are new, also of a segment that ends ahead of Next.
func TestImportOfWhatIsThere(t *testing.T) {
	for first := range 41 {
		for end := first; end <= 60; end++ {
			d, s := filled(t, api.Counter, adds(0, 40))
			b := segmentOf(3, 0, first, adds(first, end-first))
			wantImport(t, s, api.Counter, b, max(end-40, 0), api.OK)
			wantLog(t, s, adds(0, max(end, 40)))
			wantUnchanged(t, d, s, func() { wantImport(t, s, api.Counter, b, 0, api.OK) })
		}
	}
}

// P13.3: what is there already stays, whatever the segment has in its place.
func TestImportOfOtherRecords(t *testing.T) {
	_, s := filled(t, api.Counter, adds(0, 20))
	other := adds(0, 30)
	for i := range other {
		other[i].Op.A = 1000 + i
	}
	wantImport(t, s, api.Counter, segmentOf(3, 0, 0, other), 10, api.OK)
	wantLog(t, s, append(adds(0, 20), other[20:]...))
}

// P13.3: a segment as long as one may be.
func TestImportOfTheLongestSegment(t *testing.T) {
	_, s := filled(t, api.Counter, adds(0, 4200))
	b, err := Export(s, api.Counter, 100, 4196)
	wantOK(t, err)
	_, to := filled(t, api.Counter, adds(0, 99))
	wantImport(t, to, api.Counter, b, 0, api.ErrGap)
	wantOK(t, to.Append(adds(99, 1)))
	wantImport(t, to, api.Counter, b, 4096, api.OK)
	wantLog(t, to, adds(0, 4196))
}

// P13.3: a segment of each version; what it does not have is 0.
func TestImportOfEachVersion(t *testing.T) {
	for version := 1; version <= 3; version++ {
		want := adds(0, 33)
		for i := range want {
			if version < 2 {
				want[i].Seq = 0
			}
			if version < 3 {
				want[i].Resp = 0
			}
		}
		d := files.New(muchRoom)
		s := opened(t, d, api.Counter)
		wantImport(t, s, api.Counter, segmentOf(version, 0, 0, adds(0, 20)), 20, api.OK)
		wantImport(t, s, api.Counter, segmentOf(version, 0, 4, adds(4, 29)), 13, api.OK)
		wantLog(t, s, want)
		wantFile(t, d, 2, fileOf(0, 0, want[:16], want[16:20], want[20:]))
		wantAt(t, s, 33, madeOf(api.Counter, want))
	}
}

// P13.3, R2: bytes that are no segment: the error is Decode's, also where the kind is another one, and nothing is imported, not even what is whole of them.
func TestImportOfNoSegment(t *testing.T) {
	l := adds(0, 40)
	whole := exportOf(0, 0, l)
	head, one, footer := headOf(3, 0, 0), blockOf(l[:16]), framed("\x01\x09")
	for text, c := range map[string]struct {
		b    string
		want api.Errno
	}{
		"nothing":                {"", api.ErrEnd},
		"half a length":          {"\x80", api.ErrMore},
		"no frame":               {"\x80\x00", api.ErrForm},
		"cut":                    {whole[:len(whole)-1], api.ErrMore},
		"without a footer":       {head + one, api.ErrEnd},
		"a head alone":           {head, api.ErrEnd},
		"a footer alone":         {framed("\x00"), api.ErrEnd},
		"something behind":       {whole + "\x00", api.ErrMore},
		"a frame behind":         {whole + framed("\x00"), api.ErrForm},
		"twice":                  {whole + whole, api.ErrForm},
		"a turned bit":           {whole[:20] + string(whole[20]^1) + whole[21:], api.ErrSum},
		"too large a frame":      {"\xff\xff\xff\x7f" + whole, api.ErrTooLarge},
		"no head":                {framed("abc") + one + footer, api.ErrForm},
		"version 0":              {headOf(0, 0, 0) + one + footer, api.ErrVersion},
		"version 4":              {headOf(4, 0, 0) + one + footer, api.ErrVersion},
		"kind 6":                 {headOf(3, 6, 0) + framed("\x00"), api.ErrArg},
		"a block that lacks":     {head + blockOf(l[16:32]) + footer, api.ErrForm},
		"a block of seventeen":   {head + blockOf(l[:17]) + footer, api.ErrForm},
		"the footer of no block": {head + one + framed("\x00"), api.ErrEnd},
		"too many records":       {exportOf(0, 0, adds(0, 4097)), api.ErrTooLarge},
		"a snapshot":             {checkpointOf(counterAt(40)), api.ErrForm},
		"a store's file":         {fileOf(0, 0, l[:16], l[16:32], l[32:]), api.ErrEnd},
	} {
		t.Run(text, func(t *testing.T) {
			for have := range 2 {
				d, s := filled(t, api.Counter, adds(0, have))
				wantUnchanged(t, d, s, func() {
					for _, kind := range []int{-1, 0, 3, 6} {
						wantImport(t, s, kind, []byte(c.b), 0, c.want)
					}
				})
			}
		})
	}
	d, s := filled(t, api.Counter, adds(0, 4))
	wantUnchanged(t, d, s, func() {
		for n := range len(whole) {
			if got, err := Import(s, 0, []byte(whole[:n])); got != 0 || err == api.OK {
				t.Errorf("the first %d bytes: %d, error %d", n, got, err)
			}
			b := []byte(whole)
			b[n] ^= 0x10
			_, want := segment.Decode(b)
			if got, err := Import(s, 0, b); got != 0 || err == api.OK || err != want {
				t.Errorf("byte %d turned: %d, error %d, want %d", n, got, err, want)
			}
		}
	})
	wantImport(t, s, 0, []byte(whole), 36, api.OK)
}

// P13.3, R2: another kind is told ahead of a gap, and a gap ahead of what the disk answers.
func TestImportOfAnotherKindAndOfAGap(t *testing.T) {
	for have := range 20 {
		d, s := filled(t, api.Counter, adds(0, have))
		for its := range 6 {
			for _, first := range []int{0, have, have + 1, have + 16, topNumber} {
				var l []api.Record
				if first < topNumber {
					l = adds(first, 3)
				}
				for _, one := range [][]byte{segmentOf(3, its, first, l), segmentOf(3, its, first, nil)} {
					for _, kind := range []int{math.MinInt, -1, 0, 1, 2, 3, 4, 5, 6, math.MaxInt} {
						if kind != its {
							wantUnchanged(t, d, s, func() { wantImport(t, s, kind, one, 0, api.ErrArg) })
						}
					}
					if first > have {
						wantUnchanged(t, d, s, func() { wantImport(t, s, its, one, 0, api.ErrGap) })
					}
				}
			}
		}
		d.Cut(0)
		wantImport(t, s, 1, segmentOf(3, 0, have+1, adds(have+1, 3)), 0, api.ErrArg)
		wantImport(t, s, 0, segmentOf(3, 0, have+1, adds(have+1, 3)), 0, api.ErrGap)
		wantImport(t, s, 0, segmentOf(3, 0, have+1, nil), 0, api.ErrGap)
		wantImport(t, s, 0, segmentOf(3, 0, have, adds(have, 3)), 0, api.ErrDown)
		wantImport(t, s, 0, segmentOf(3, 0, have, nil), 0, api.OK)
		wantImport(t, s, 0, segmentOf(3, 0, 0, adds(0, have)), 0, api.OK)
	}
}

// P13.3: the kind that is handed in is held against the segment's alone: also where it is not the store's, the records are the log's.
func TestImportOfAKindThatIsNotTheStores(t *testing.T) {
	for its := range 6 {
		for kind := range 6 {
			l := records(kind, 0, 20)
			d := files.New(muchRoom)
			s := opened(t, d, its)
			wantImport(t, s, kind, segmentOf(3, kind, 0, l), 20, api.OK)
			wantLog(t, s, l)
			wantAt(t, s, 20, madeOf(its, l))
			wantFile(t, d, 2, fileOf(its, 0, sixteens(l)...))
			wantOK(t, s.Sync())
			wantLog(t, opened(t, d, its), l)
		}
	}
}

// P13.3: behind Retain, and behind Rotate: the records stand in the Current segment, or in a new one, as with any Append.
func TestImportGoesOnWithTheStore(t *testing.T) {
	d, s := filled(t, api.Counter, adds(0, 20))
	wantOK(t, s.Rotate(), s.Checkpoint(), s.Retain())
	wantImport(t, s, api.Counter, segmentOf(3, 0, 0, adds(0, 20)), 0, api.OK)
	if s.First() != 20 || len(d.Names()) != 1 {
		t.Error(s.First(), d.Names())
	}
	wantImport(t, s, api.Counter, segmentOf(3, 0, 0, adds(0, 40)), 20, api.OK)
	wantImport(t, s, api.Counter, segmentOf(3, 0, 40, adds(40, 2)), 2, api.OK)
	wantFile(t, d, 2, fileOf(0, 20, adds(20, 16), adds(36, 4), adds(40, 2)))
	wantOK(t, s.Rotate())
	wantImport(t, s, api.Counter, segmentOf(3, 0, 30, adds(30, 20)), 8, api.OK)
	wantFile(t, d, 4, fileOf(0, 42, adds(42, 8)))
	wantAt(t, s, 45, counterAt(45))
	if l, err := s.Records(20, 50); err != api.OK || !slices.Equal(l, adds(20, 30)) {
		t.Error(l, err)
	}
}

// P13.3: the greatest index.
func TestImportAtTheGreatestIndex(t *testing.T) {
	base := api.Snapshot{Index: topNumber, State: objs.Start(api.Counter)}
	s := opened(t, diskOf(t, map[int]string{3: checkpointOf(base)}), api.Counter)
	r := api.Record{Index: topNumber, Op: api.Op{Code: api.Add, A: 5}}
	b := segmentOf(3, 0, topNumber, []api.Record{r})
	for _, n := range []int{1, 0} {
		wantImport(t, s, api.Counter, b, n, api.OK)
		wantImport(t, s, api.Counter, segmentOf(3, 0, 0, adds(0, 5)), 0, api.OK)
		wantImport(t, s, api.Counter, segmentOf(3, 0, topNumber, nil), 0, api.OK)
	}
	if l, err := s.Records(topNumber, topNumber+1); err != api.OK || !slices.Equal(l, []api.Record{r}) {
		t.Error(l, err)
	}
}

// P13.3: the power goes out behind each step: how many were appended ahead of it; these stay, and the rest is new to the next Import.
func TestImportWhereThePowerGoesOut(t *testing.T) {
	for _, have := range []int{0, 3} {
		for _, count := range []int{1, 15, 16, 17, 32, 33, 70} {
			b := segmentOf(3, 0, 0, adds(0, have+count))
			for cut := range len(sixteens(adds(have, count))) + 2 {
				d, s := filled(t, api.Counter, adds(0, have))
				wantOK(t, s.Sync())
				d.Cut(cut)
				done, want := 16*cut, api.ErrDown
				if done >= count {
					done, want = count, api.OK
				}
				wantImport(t, s, api.Counter, b, done, want)
				wantLog(t, s, adds(0, have+done))
				wantAt(t, s, have+done, counterAt(have+done))
				if want == api.ErrDown {
					wantUnchanged(t, d, s, func() { wantImport(t, s, api.Counter, b, 0, api.ErrDown) })
				}
				// The power comes again with some of the bytes: what is lost is new once more.
				d.Crash(1, []int{60})
				s = opened(t, d, api.Counter)
				next := s.Next()
				if next < have || next > have+done {
					t.Fatalf("next %d, want %d to %d", next, have, have+done)
				}
				wantImport(t, s, api.Counter, b, have+count-next, api.OK)
				wantLog(t, s, adds(0, have+count))
			}
		}
	}
}

// P13.3: the disk is full at each step.
func TestImportWhereTheDiskIsFull(t *testing.T) {
	for _, have := range []int{0, 3} {
		for _, count := range []int{1, 16, 17, 33, 50} {
			b := segmentOf(3, 0, 0, adds(0, have+count))
			blocks := sixteens(adds(have, count))
			ahead, _ := filled(t, api.Counter, adds(0, have))
			least := ahead.Used()
			if have == 0 {
				least = len(headOf(3, 0, 0))
			}
			all := least
			for _, part := range blocks {
				all += len(blockOf(part))
			}
			for room := least; room <= all+1; room++ {
				d := files.New(room)
				s := opened(t, d, api.Counter)
				if have > 0 {
					wantOK(t, s.Append(adds(0, have)))
				}
				done, used, want := 0, least, api.OK
				for _, part := range blocks {
					if used += len(blockOf(part)); used > room {
						want = api.ErrNoSpace
						break
					}
					done += len(part)
				}
				wantImport(t, s, api.Counter, b, done, want)
				wantLog(t, s, adds(0, have+done))
				if want != api.OK {
					wantUnchanged(t, d, s, func() { wantImport(t, s, api.Counter, b, 0, want) })
				}
			}
		}
	}
}

// P13.3: the disk has no name left for a segment.
func TestImportWhereNoNameIsLeft(t *testing.T) {
	d := diskOf(t, map[int]string{topName - 1: ""})
	s := opened(t, d, api.Counter)
	wantUnchanged(t, d, s, func() { wantImport(t, s, api.Counter, segmentOf(3, 0, 0, adds(0, 40)), 0, api.ErrArg) })
	wantOK(t, d.Remove(topName-1))
	wantImport(t, s, api.Counter, segmentOf(3, 0, 0, adds(0, 40)), 40, api.OK)
}

// R3: what is handed in stays as it was, and later changes to it change nothing.
func TestWhatIsImportedStays(t *testing.T) {
	d := files.New(muchRoom)
	s := opened(t, d, api.Counter)
	whole := exportOf(0, 0, adds(0, 40))
	room := append([]byte(whole), "behind"...)
	b := room[:len(whole)]
	wantImport(t, s, api.Counter, b, 40, api.OK)
	if string(room) != whole+"behind" {
		t.Error("what was handed in is changed")
	}
	wantUnchanged(t, d, s, func() {
		for i := range room {
			room[i] = 0xff
		}
	})
	wantLog(t, s, adds(0, 40))
	for _, wrong := range []string{whole[:30], "abc", exportOf(1, 0, adds(0, 2)), exportOf(0, 50, adds(50, 2))} {
		b := []byte(wrong)
		if n, err := Import(s, api.Counter, b); n != 0 || err == api.OK || !bytes.Equal(b, []byte(wrong)) {
			t.Error(fmt.Sprint(n, err, b))
		}
	}
}
