package restore

import (
	"fmt"
	"math"
	"math/rand/v2"
	"slices"
	"strings"
	"testing"

	"ferryman/api"
	"ferryman/files"
	"ferryman/store"
)

// carried is what one store exports and another one imports, by pieces of so many records, the last one fewer.
func carried(t *testing.T, from, to *store.Store, kind, size int) {
	t.Helper()
	for at := from.First(); at < from.Next(); at += size {
		end := min(at+size, from.Next())
		b, err := Export(from, kind, at, end)
		wantOK(t, err)
		wantImport(t, to, kind, b, end-at, api.OK)
	}
}

// wantSameLog asks of two stores that have let go nothing that their logs, and the states along them, are the same.
func wantSameLog(t *testing.T, a, b *store.Store) {
	t.Helper()
	l, err := a.Records(0, a.Next())
	wantOK(t, err)
	wantLog(t, b, l)
	for index := range a.Next() + 1 {
		want, err := At(a, index)
		wantOK(t, err)
		wantAt(t, b, index, want)
	}
}

// P13.4: a log of each kind that is carried elsewhere, in one piece, piece by piece, and from there once more, is the same log, also behind a loss of power.
func TestALogThatIsCarriedElsewhere(t *testing.T) {
	for kind := range 6 {
		for _, size := range []int{1, 5, 15, 16, 17, 33, 89, 90, 1000} {
			_, s := busy(t, kind, true, false)
			d := files.New(muchRoom)
			to := opened(t, d, kind)
			carried(t, s, to, kind, size)
			wantSameLog(t, s, to)
			whole, err := Export(s, kind, 0, 90)
			wantOK(t, err)
			wantExport(t, to, kind, 0, 90, string(whole), api.OK)
			wantUnchanged(t, d, to, func() { wantImport(t, to, kind, whole, 0, api.OK) })
			wantOK(t, to.Sync())
			d.Crash(0, nil)
			to = opened(t, d, kind)
			wantSameLog(t, s, to)
			third := opened(t, files.New(muchRoom), kind)
			carried(t, to, third, kind, size+1)
			wantSameLog(t, s, third)
		}
	}
}

// P13.4: pieces that are doubled, that lap over each other, and that come too early.
func TestPiecesInAnyOrder(t *testing.T) {
	chance := rand.New(rand.NewPCG(13, 4)) // the same numbers in every run
	for i := range 60 {
		kind := i % 6
		all := records(kind, 0, 90)
		_, s := busy(t, kind, i%2 == 0, false)
		to := opened(t, files.New(muchRoom), kind)
		for range 1000 { // far more than it takes
			next := to.Next()
			if next == 90 || t.Failed() {
				break
			}
			from := chance.IntN(min(next+12, 91))
			end := from + chance.IntN(min(40, 90-from)+1)
			b, err := Export(s, kind, from, end)
			wantOK(t, err)
			if from > next {
				wantImport(t, to, kind, b, 0, api.ErrGap)
				end = next
			} else {
				wantImport(t, to, kind, b, max(end-next, 0), api.OK)
			}
			wantLog(t, to, all[:max(next, end)])
		}
		wantSameLog(t, s, to)
	}
}

// P13.4: a log whose beginning was let go is carried to a store that has that beginning from elsewhere.
func TestTheRestOfALog(t *testing.T) {
	for kind := range 6 {
		_, s := busy(t, kind, true, true)
		_, all := busy(t, kind, false, false)
		b, err := Export(s, kind, s.First(), 90)
		wantOK(t, err)
		for _, have := range []int{0, 71, 72, 73, 80, 90} {
			_, to := filled(t, kind, records(kind, 0, have))
			if have < 72 {
				wantImport(t, to, kind, b, 0, api.ErrGap)
				continue
			}
			wantImport(t, to, kind, b, 90-have, api.OK)
			wantSameLog(t, all, to)
		}
	}
}

// journal is what was appended to a store, and not lost.
type journal struct {
	kind int
	all  []api.Record
	d    *files.Disk
	s    *store.Store
}

// change makes one of the store's calls, by chance.
func (j *journal) change(t *testing.T, chance *rand.Rand) {
	t.Helper()
	switch chance.IntN(12) {
	case 0, 1, 2, 3, 4:
		// Which records they are is told by chance, so that what is lost is not what is appended in its place.
		l := records(j.kind, len(j.all), 1+chance.IntN(6))
		for i := range l {
			l[i].Op.B = chance.IntN(1000)
		}
		if j.s.Append(l) == api.OK {
			j.all = append(slices.Clone(j.all), l...)
		}
	case 5:
		j.s.Sync()
	case 6, 7:
		j.s.Rotate()
	case 8:
		j.s.Checkpoint()
	case 9:
		j.s.Retain()
	case 10:
		j.d.Cut(1 + chance.IntN(12))
	case 11:
		j.d.Crash(chance.IntN(6), []int{chance.IntN(90), chance.IntN(90)}[:chance.IntN(3)])
		j.s = opened(t, j.d, j.kind)
		j.all = j.all[:j.s.Next()]
	}
}

// P13.4: through losses of power, checkpoints and Retain, the state at an index is what the first so many records make, or it is told that it was let go: of no index that is a base's, and of none from Base on.
func TestStatesOfEarlierThroughLossesOfPower(t *testing.T) {
	chance := rand.New(rand.NewPCG(13, 13)) // the same numbers in every run
	compacted := 0
	for i := range 120 {
		j := &journal{kind: i % 6, d: files.New([]int{300, 900, muchRoom}[i/6%3])}
		j.s = opened(t, j.d, j.kind)
		for range 60 {
			j.change(t, chance)
			var bases []int
			for _, base := range j.s.Bases() {
				bases = append(bases, base.Index)
			}
			for index := range len(j.all) + 1 {
				if index < j.s.Base().Index && !slices.Contains(bases, index) {
					if got, err := At(j.s, index); err == api.ErrCompacted && isNought(got) {
						compacted++
						continue
					}
				}
				wantAt(t, j.s, index, madeOf(j.kind, j.all[:index]))
			}
			wantNotAt(t, j.s, len(j.all)+1, api.ErrOutOfRange)
		}
	}
	if compacted == 0 {
		t.Error("nothing was let go")
	}
}

// twin is a disk, and a store on it, that imports by the program, or by the plain words.
type twin struct {
	d       *files.Disk
	s       *store.Store
	imports func(s *store.Store, kind int, b []byte) (int, api.Errno)
}

// both does the same to two twins, and asks that the same comes of it.
func both(t *testing.T, twins [2]*twin, text string, do func(x *twin) string) {
	t.Helper()
	got, want := do(twins[0]), do(twins[1])
	if got != want {
		t.Fatalf("%s: %s, want %s", text, got, want)
	}
	if got, want := lookAtStore(twins[0].s), lookAtStore(twins[1].s); got != want {
		t.Fatalf("%s: the store %s, want %s", text, got, want)
	}
	if got, want := lookAtDisk(twins[0].d), lookAtDisk(twins[1].d); got != want {
		t.Fatalf("%s: the disk %s, want %s", text, got, want)
	}
}

// chanceSegment is the bytes of a segment about Next, by chance, some of them spoilt.
func chanceSegment(kind, next int, chance *rand.Rand) []byte {
	first := max(next-20+chance.IntN(24), 0)
	its := kind
	if chance.IntN(12) == 0 {
		its = chance.IntN(6)
	}
	b := segmentOf(1+chance.IntN(3), its, first, records(kind, first, chance.IntN(60)))
	switch chance.IntN(20) {
	case 0:
		b = b[:chance.IntN(len(b))]
	case 1:
		b[chance.IntN(len(b))] ^= 1 << chance.IntN(8)
	}
	return b
}

// wantAsTold asks of a store that At and Export answer as the plain words do, at all indices and at some pieces.
func wantAsTold(t *testing.T, s *store.Store, chance *rand.Rand, text string) {
	t.Helper()
	for index := -1; index <= s.Next()+1; index++ {
		got, err := At(s, index)
		want, wantErr := plainAt(s, index)
		if err != wantErr || snapText(got) != snapText(want) {
			t.Fatalf("%s: At(%d) = %s, error %d, want %s, error %d", text, index, snapText(got), err, snapText(want), wantErr)
		}
	}
	for range 4 {
		kind, from, to := chance.IntN(8)-1, chance.IntN(s.Next()+3)-1, chance.IntN(s.Next()+3)-1
		b, err := Export(s, kind, from, to)
		want, wantErr := plainExport(s, kind, from, to)
		if err != wantErr || string(b) != want {
			t.Fatalf("%s: Export(%d, %d, %d) = %x, error %d, want %x, error %d", text, kind, from, to, b, err, want, wantErr)
		}
	}
}

// P13.1 to P13.3: long scripts by chance, against the plain words: imports, the store's own calls, what others write on its disk, and losses of power.
func TestScriptsByChance(t *testing.T) {
	chance := rand.New(rand.NewPCG(13, 1)) // the same numbers in every run
	for i := range 192 {
		kind := i % 6
		room := []int{60, 250, 900, muchRoom}[i/6%4]
		twins := [2]*twin{{d: files.New(room), imports: Import}, {d: files.New(room), imports: plainImport}}
		for _, x := range twins {
			x.s = opened(t, x.d, kind)
		}
		text := []string{fmt.Sprintf("script %d, room %d", i, room)}
		for range 25 {
			said, do := chanceCall(t, kind, twins[0].s.Next(), chance)
			text = append(text, said)
			both(t, twins, strings.Join(text, ", "), do)
			wantAsTold(t, twins[0].s, chance, strings.Join(text, ", "))
		}
	}
}

// chanceCall is one of all that may happen to a store, by chance, and its text.
func chanceCall(t *testing.T, kind, next int, chance *rand.Rand) (string, func(x *twin) string) {
	told := func(text string, do func(s *store.Store) api.Errno) (string, func(x *twin) string) {
		return text, func(x *twin) string { return fmt.Sprint(do(x.s)) }
	}
	switch chance.IntN(20) {
	case 0, 1, 2:
		return told("Append", func(s *store.Store) api.Errno { return s.Append(records(kind, s.Next(), 1+next%5)) })
	case 3:
		return told("Sync", (*store.Store).Sync)
	case 4, 5:
		return told("Rotate", (*store.Store).Rotate)
	case 6, 7:
		return told("Checkpoint", (*store.Store).Checkpoint)
	case 8, 9:
		return told("Retain", (*store.Store).Retain)
	case 10:
		n := chance.IntN(12)
		return fmt.Sprintf("Cut(%d)", n), func(x *twin) string { x.d.Cut(n); return "" }
	case 11, 12, 13:
		names, keep, isNew := chance.IntN(6), []int{chance.IntN(90), chance.IntN(90)}[:chance.IntN(3)], chance.IntN(8) == 0
		name, b := 3+2*chance.IntN(6), checkpointOf(madeOf(kind, records(kind, 0, chance.IntN(next+3))))
		return fmt.Sprintf("Crash(%d, %v), another's checkpoint: %t, Open", names, keep, isNew), func(x *twin) string {
			x.d.Crash(names, keep)
			if isNew {
				x.d.Append(name, []byte(b))
			}
			x.s = opened(t, x.d, kind)
			return ""
		}
	}
	handed := kind
	if chance.IntN(12) == 0 {
		handed = chance.IntN(8) - 1
	}
	b := chanceSegment(kind, next, chance)
	return fmt.Sprintf("Import(%d, %x)", handed, b), func(x *twin) string {
		n, err := x.imports(x.s, handed, b)
		return fmt.Sprintf("%d, error %d", n, err)
	}
}

// P1, R1, R4: any arguments: nothing panics, and with an error all else is noughts, but how many were imported ahead of it.
func TestAnyArguments(t *testing.T) {
	numbers := []int{math.MinInt, math.MinInt + 1, -1 << 62, -4097, -1, 0, 1, 2, 5, 6, 17, 37, 57, 72, 77, 89, 90, 91, 4096, 4097, topNumber, 1 << 62, 1<<62 + 1, math.MaxInt - 1, math.MaxInt}
	for _, retains := range []bool{false, true} {
		_, s := busy(t, api.Queue, true, retains)
		for _, a := range numbers {
			if got, err := At(s, a); err != api.OK && !isNought(got) {
				t.Errorf("At(%d) = %v, error %d", a, got, err)
			}
			for _, b := range numbers {
				for _, kind := range numbers {
					if got, err := Export(s, kind, a, b); err != api.OK && len(got) != 0 || err == api.OK && len(got) == 0 {
						t.Errorf("Export(%d, %d, %d) = %x, error %d", kind, a, b, got, err)
					}
				}
			}
		}
	}
	chance := rand.New(rand.NewPCG(13, 3)) // the same numbers in every run
	d, s := busy(t, api.Queue, true, true)
	wantUnchanged(t, d, s, func() {
		for range 3000 {
			b := make([]byte, chance.IntN(40))
			for i := range b {
				b[i] = byte(chance.Uint32() >> 24)
			}
			wantNoImport(t, s, numbers[chance.IntN(len(numbers))], b)
		}
		for _, kind := range numbers {
			wantNoImport(t, s, kind, nil)
		}
	})
}

func wantNoImport(t *testing.T, s *store.Store, kind int, b []byte) {
	t.Helper()
	if n, err := Import(s, kind, b); n != 0 || err == api.OK {
		t.Errorf("Import(%d, %x) = %d, error %d", kind, b, n, err)
	}
}

// R5: the same calls answer the same.
func TestTheSameCallsAnswerTheSame(t *testing.T) {
	want := ""
	for range 3 {
		var out strings.Builder
		_, s := busy(t, api.Store, true, true)
		d := files.New(400)
		to := opened(t, d, api.Store)
		for index := range 91 {
			got, err := At(s, index)
			b, errs := Export(s, api.Store, max(index, s.First()), 90)
			n, stops := Import(to, api.Store, segmentOf(3, api.Store, 0, records(api.Store, 0, index)))
			fmt.Fprintln(&out, snapText(got), err, b, errs, n, stops)
		}
		out.WriteString(lookAtStore(to) + lookAtDisk(d))
		if want == "" {
			want = out.String()
		}
		if out.String() != want {
			t.Fatal(out.String(), want)
		}
	}
}
