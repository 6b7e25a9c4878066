package block

import (
	"math"
	"slices"
	"strings"
	"testing"

	"ferryman/api"
)

// wantRecords asks of Decode these records.
func wantRecords(t *testing.T, b string, want []api.Record) {
	t.Helper()
	if l, err := Decode([]byte(b)); err != api.OK || !slices.Equal(l, want) {
		t.Errorf("Decode(%x) = %v, error %d, want %v", b, l, err, want)
	}
}

// wantNone asks of Decode ErrForm, and no records (R4).
func wantNone(t *testing.T, b string) {
	t.Helper()
	if l, err := Decode([]byte(b)); err != api.ErrForm || len(l) != 0 {
		t.Errorf("Decode(%x) = %v, error %d, want none", b, l, err)
	}
}

// wantBytes asks of Encode these bytes, of Decode the records again, and of Fits that they do.
func wantBytes(t *testing.T, l []api.Record, want string) {
	t.Helper()
	if !Fits(l) {
		t.Errorf("%v do not fit", l)
	}
	if b, err := Encode(l); err != api.OK || string(b) != want {
		t.Errorf("Encode(%v) = %x, error %d, want %x", l, b, err, want)
	}
	wantRecords(t, want, l)
}

// wantRefused asks of Encode ErrArg and nothing, and of Fits that these do not.
func wantRefused(t *testing.T, l []api.Record) {
	t.Helper()
	if Fits(l) {
		t.Errorf("%v fit", l)
	}
	if b, err := Encode(l); err != api.ErrArg || len(b) != 0 {
		t.Errorf("Encode(%v) = %x, error %d, want ErrArg", l, b, err)
	}
}

// P7.2, P7.3: the chapter's example, and bytes worked out by hand.
func TestExamples(t *testing.T) {
	wantBytes(t, []api.Record{{Index: 7, Proc: 1, Seq: 5}, {Index: 8, Proc: 1, Seq: 6}}, "\x07\x02\x01\x0a\x00\x00\x00\x00\x01\x02\x00\x00\x00\x00")
	wantBytes(t, []api.Record{{}}, "\x00\x01\x00\x00\x00\x00\x00\x00")
	wantBytes(t, []api.Record{some()}, "\x05\x01\x02\x0e\x05\x05\xd8\x04\x01")
	wantBytes(t, []api.Record{
		{Index: 300, Proc: 64, Seq: 1, Op: api.Op{Code: api.Add, A: 3}, Resp: 9},
		{Index: 301, Proc: 0, Seq: 100, Op: api.Op{Code: api.Get}, Resp: -topResp},
		{Index: 302, Proc: 64, Seq: 2, Op: api.Op{Code: api.Seal, A: 2}},
		{Index: 303, Proc: 0, Seq: 99, Op: api.Op{Code: api.Add, A: -1, B: -64}, Resp: 64},
		{Index: 304, Proc: 0, Seq: 99},
	}, "\xac\x02\x05"+
		"\x40\x02\x01\x06\x00\x12"+
		"\x00\xc8\x01\x07\x00\x00\xff\xff\xff\xff\xff\xff\xff\x03"+
		"\x40\x02\x0a\x04\x00\x00"+
		"\x00\x01\x01\x01\x7f\x80\x01"+
		"\x00\x00\x00\x00\x00\x00")
}

// P7.1, P7.2, P7.3, P7.4: what fits is encoded as the chapter tells, and decoded as it was.
func TestWhatWasEncodedIsDecoded(t *testing.T) {
	for _, l := range goodBlocks() {
		wantBytes(t, l, plainEncode(l))
	}
}

// P7.1, P7.2: how many there are.
func TestHowManyRecords(t *testing.T) {
	wantRefused(t, nil)
	wantRefused(t, []api.Record{})
	for _, count := range []int{1, 2, 16, 127, 128, 255, 256} {
		wantBytes(t, row(4, count), plainEncode(row(4, count)))
	}
	for _, count := range []int{257, 258, 512, 1 << 16} {
		wantRefused(t, row(4, count))
	}
}

// P7.1, P7.2: a record that does not fit, by each of its numbers and at each place.
func TestARecordThatDoesNotFit(t *testing.T) {
	told, untold := wrongRecords()
	for _, wrong := range append(told, untold...) {
		wantRefused(t, []api.Record{wrong})
		if wrong.Index != some().Index {
			// An index must be wrong by its bounds alone: so it stands last, and goes on.
			wantRefused(t, []api.Record{{Index: wrong.Index - 1}, wrong})
			continue
		}
		for _, place := range []int{0, 1, 2, 3} {
			l := row(some().Index-place, 4)
			l[place] = wrong
			wantRefused(t, l)
		}
	}
	l := row(5, mostBlock)
	l[mostBlock-1].Proc = 65
	wantRefused(t, l)
}

// P7.1, P7.2: indices that are not one more than the one ahead.
func TestIndicesThatDoNotGoOn(t *testing.T) {
	for _, other := range []int{-2, -1, 1, 2, 255, 1 << 32, 1 << 61} {
		for place := 1; place < 4; place++ {
			l := row(3, 4)
			l[place].Index += other
			wantRefused(t, l)
			l = row(3, 4)
			for i := range l[place:] {
				l[place+i].Index += other
			}
			wantRefused(t, l)
		}
	}
	wantRefused(t, []api.Record{{Index: 4}, {Index: 3}})
	wantRefused(t, []api.Record{{Index: 3}, {Index: 3}})
	wantRefused(t, []api.Record{{Index: topNumber}, {Index: 0}})
	wantRefused(t, []api.Record{{Index: 0}, {Index: topNumber}})
	last := row(3, mostBlock)
	last[mostBlock-1].Index++
	wantRefused(t, last)
}

// P7.1, P7.2, P7.3: the last index is 2^62 - 1, or would be 2^62.
func TestTheLastIndex(t *testing.T) {
	for _, count := range []int{1, 2, 3, 100, 255, 256} {
		fits := row(topNumber-count+1, count)
		wantBytes(t, fits, plainEncode(fits))
		beyond := row(topNumber-count+2, count)
		wantRefused(t, beyond)
		if count > 1 {
			wantNone(t, plainEncode(beyond))
			wantNone(t, put(topNumber)+put(count)+plainRecords(fits))
		}
	}
	wantRefused(t, []api.Record{{Index: math.MaxInt}, {Index: math.MinInt}})
}

// P7.2, P7.4: how Seqs are told, of one process.
func TestSeqsOfOneProcess(t *testing.T) {
	for _, proc := range []int{0, 1, 63, 64} {
		for _, c := range []struct {
			seqs []int
			told string // of the last one
		}{
			{[]int{0}, "\x00"},
			{[]int{1}, "\x02"},
			{[]int{topNumber}, "\xfe\xff\xff\xff\xff\xff\xff\xff\x7f"},
			{[]int{8, 9}, "\x02"},
			{[]int{topNumber - 1, topNumber}, "\x02"},
			{[]int{8, 8}, "\x00"},
			{[]int{topNumber, topNumber}, "\x00"},
			{[]int{8, 7}, "\x01"},
			{[]int{8, 9, 8}, "\x01"},
			{[]int{9, 72}, "\x7e"},
			{[]int{9, 73}, "\x80\x01"},
			{[]int{64, 0}, "\x7f"},
			{[]int{65, 0}, "\x81\x01"},
			{[]int{0, topNumber}, "\xfe\xff\xff\xff\xff\xff\xff\xff\x7f"},
			{[]int{topNumber, 0}, "\xfd\xff\xff\xff\xff\xff\xff\xff\x7f"},
			{[]int{0, topNumber, 0}, "\xfd\xff\xff\xff\xff\xff\xff\xff\x7f"},
		} {
			l := ofSeqs(proc, c.seqs...)
			wantBytes(t, l, plainEncode(l))
			before := ""
			if len(l) > 1 {
				before = plainRecords(l[:len(l)-1])
			}
			b, _ := Encode(l)
			if want := put(9) + put(len(l)) + before + put(proc) + c.told + "\x05\x05\xd8\x04\x01"; string(b) != want {
				t.Errorf("Seqs %v are told as %x, want %x", c.seqs, b, want)
			}
		}
	}
}

// P7.2, P7.3: each process has Seqs of its own, by whatever stands between.
func TestSeqsOfSeveralProcesses(t *testing.T) {
	for _, l := range [][]api.Record{ofProcs(0, 64), ofProcs(1, 2, 1, 2), ofProcs(0, 64, 3, 3, 64, 0), ofProcs(3, 1, 2, 1, 3)} {
		b, err := Encode(l)
		if err != api.OK {
			t.Fatal(l, err)
		}
		at := len(put(1000)) + 1
		seen := map[int]bool{}
		for _, r := range l {
			seq := r.Seq
			if seen[r.Proc] {
				seq = 1
			}
			seen[r.Proc] = true
			want := put(r.Proc) + putSigned(seq) + "\x05\x05\xd8\x04\x01"
			if got := string(b[at : at+len(want)]); got != want {
				t.Errorf("of %v the record %v is told as %x, want %x", l, r, got, want)
			}
			at += len(want)
		}
		if at != len(b) {
			t.Errorf("Encode(%v) has %d bytes, want %d", l, len(b), at)
		}
		wantRecords(t, string(b), l)
	}
}

// P7.4: each record of processes whose Seqs rise by one takes one byte for its Seq, however great that is.
func TestARisingSeqTakesOneByte(t *testing.T) {
	for _, first := range []int{0, 1, 127, 1 << 40, topNumber - mostBlock} {
		for _, procs := range []int{1, 2, 7, 65} {
			l := make([]api.Record, mostBlock)
			for i := range l {
				l[i] = api.Record{Index: i, Proc: i % procs, Seq: first + i/procs}
			}
			b, err := Encode(l)
			if err != api.OK {
				t.Fatal(err)
			}
			want := len(put(0)) + len(put(mostBlock)) + procs*(5+len(putSigned(first))) + (mostBlock-procs)*6
			if len(b) != want {
				t.Errorf("%d processes from Seq %d on take %d bytes, want %d", procs, first, len(b), want)
			}
			wantRecords(t, string(b), l)
		}
	}
}

// P7.3: no bytes, and bytes that begin with no number.
func TestDecodeBeginning(t *testing.T) {
	if l, err := Decode(nil); err != api.ErrForm || len(l) != 0 {
		t.Error(l, err)
	}
	wantNone(t, "")
	behind := plainRecords(row(5, 2))
	for _, none := range append(noNumbers(), "\x80", "\xff") {
		wantNone(t, none)
		wantNone(t, put(5)+none)
	}
	for _, none := range noNumbers() {
		wantNone(t, none+put(2)+behind)
		wantNone(t, put(5)+none+behind)
	}
	wantNone(t, put(5))
	wantNone(t, put(topNumber))
}

// P7.3: counts of none, too many, and others than there are records.
func TestDecodeCounts(t *testing.T) {
	wantNone(t, put(5)+put(0))
	for _, there := range []int{0, 1, 2, 3, 255, 256, 257, 300} {
		l := row(5, there)
		records := plainRecords(l)
		for _, count := range []int{0, 1, 2, 3, 127, 128, 255, 256, 257, 258, 300, 512, 1 << 16, 1 << 32, 1<<32 + 1, 1 << 40, topNumber} {
			b := put(5) + put(count) + records
			if count == there && count >= 1 && count <= 256 {
				wantRecords(t, b, l)
			} else {
				wantNone(t, b)
			}
		}
	}
}

// P7.3: a value that is none, of each sort, in the first, the second and the last record.
func TestDecodeValuesThatAreNone(t *testing.T) {
	good := plainRecord(some(), 7)
	values := []string{put(2), putSigned(7), put(5), putSigned(-3), putSigned(300), putSigned(-1)}
	if strings.Join(values, "") != good {
		t.Fatal("the values are not those of the record")
	}
	for field := range values {
		nones := noSigned()
		if field == 0 || field == 2 {
			nones = noNumbers()
		}
		for _, none := range nones {
			bad := strings.Join(values[:field], "") + none + strings.Join(values[field+1:], "")
			wantNone(t, put(5)+put(1)+bad)
			wantNone(t, put(5)+put(2)+bad+good)
			wantNone(t, put(5)+put(2)+good+bad)
			wantNone(t, put(5)+put(3)+good+bad+good)
		}
		for _, short := range []string{"", "\x80", "\xff\xff"} {
			wantNone(t, put(5)+put(1)+strings.Join(values[:field], "")+short)
		}
		left := strings.Join(slices.Delete(slices.Clone(values), field, field+1), "")
		wantNone(t, put(5)+put(1)+left)
	}
}

// P7.3: records of which one does not fit.
func TestDecodeOfWhatDoesNotFit(t *testing.T) {
	told, _ := wrongRecords()
	for _, wrong := range told {
		wantNone(t, plainEncode([]api.Record{wrong}))
		for _, place := range []int{0, 1, 2, 3} {
			l := row(some().Index-place, 4)
			l[place] = wrong
			wantNone(t, plainEncode(l))
		}
	}
	l := row(5, mostBlock)
	l[mostBlock-1].Resp = topResp + 1
	wantNone(t, plainEncode(l))
}

// P7.3: a Seq that leads beyond its bounds, also once around 64 bits, and also if the next one leads back.
func TestDecodeOfSeqsBeyondTheirBounds(t *testing.T) {
	told := func(rises ...int) string {
		out := put(5) + put(len(rises))
		for _, rise := range rises {
			out += plainRecord(some(), rise)
		}
		return out
	}
	for _, rises := range [][]int{
		{-1}, {1 << 62}, {math.MaxInt}, {math.MinInt}, {-topNumber},
		{0, -1}, {7, -8}, {7, math.MinInt}, {7, math.MinInt + 1},
		{topNumber, 1}, {topNumber, topNumber}, {topNumber, math.MaxInt}, {topNumber, 1 << 62}, {topNumber, -topNumber - 1}, {topNumber, math.MinInt},
		{-1, 1}, {-1, 2}, {topNumber, 1, -1}, {topNumber, 1, -topNumber}, {1 << 62, -1}, {0, math.MinInt, math.MinInt},
		{topNumber, topNumber, topNumber, topNumber, 4}, {math.MaxInt, math.MaxInt, 2},
	} {
		wantNone(t, told(rises...))
	}
	for _, rises := range [][]int{{0}, {topNumber}, {7, -7}, {topNumber, -topNumber}, {topNumber, 0}, {topNumber - 1, 1}, {0, topNumber, -topNumber, topNumber}} {
		seqs, seq := []int{}, 0
		for _, rise := range rises {
			seq += rise
			seqs = append(seqs, seq)
		}
		want := ofSeqs(2, seqs...)
		for i := range want {
			want[i].Index = 5 + i
		}
		wantRecords(t, told(rises...), want)
	}
	other := some()
	other.Proc = 3
	wantNone(t, put(5)+put(2)+plainRecord(some(), 7)+plainRecord(other, -7)) // what the one rose the other can't fall
}

// P7.3, P2: what is cut off at any place is refused.
func TestDecodeOfCutBytes(t *testing.T) {
	for _, l := range goodBlocks() {
		whole := plainEncode(l)
		for at := range len(whole) {
			wantNone(t, whole[:at])
		}
	}
}

// P7.3: what has something behind it is refused: any byte, a record, or the whole once more.
func TestDecodeWithSomethingBehind(t *testing.T) {
	for _, l := range goodBlocks() {
		whole := plainEncode(l)
		for c := range 256 {
			wantNone(t, whole+string([]byte{byte(c)}))
		}
		wantNone(t, whole+whole)
		wantNone(t, whole+plainRecords(l[:1]))
	}
}

// P7.3: each number with a needless group, or two.
func TestDecodeOfNeedlessGroups(t *testing.T) {
	for _, l := range goodBlocks() {
		whole := plainEncode(l)
		if len(whole) > 2000 {
			continue
		}
		for at := range len(whole) {
			if whole[at] < 128 {
				wantNone(t, whole[:at]+string([]byte{whole[at] | 128, 0})+whole[at+1:])
				wantNone(t, whole[:at]+string([]byte{whole[at] | 128, 128, 0})+whole[at+1:])
			}
		}
	}
}

// P7.3, P7.4: bytes of all sorts, by the chapter's words; what is decoded is encoded as the same bytes.
func TestDecodeByItsWords(t *testing.T) {
	accepted, refused := 0, 0
	check := func(b string) {
		want, there := plainDecode(b)
		if !there {
			refused++
			wantNone(t, b)
			return
		}
		accepted++
		wantRecords(t, b, want)
		l, _ := Decode([]byte(b))
		if again, err := Encode(l); err != api.OK || string(again) != b {
			t.Errorf("Decode(%x) is encoded as %x, error %d", b, again, err)
		}
	}
	laid(4, check)
	spoiled(check)
	if accepted < 1000 || refused < 1000 {
		t.Errorf("%d were accepted, %d refused", accepted, refused)
	}
}

// R3: what Encode and Fits are handed stays as it was, also behind its end, and the bytes are the caller's own.
func TestWhatIsEncodedStaysAsItWas(t *testing.T) {
	for _, l := range append(goodBlocks(), row(5, 257), []api.Record{{Index: 3}, {Index: 3}}) {
		room := append(slices.Clone(l), some(), some())
		was := slices.Clone(room)
		first, err := Encode(room[:len(l)])
		fits := Fits(room[:len(l)])
		if !slices.Equal(room, was) {
			t.Errorf("Encode and Fits made %v of %v", room, was)
		}
		if fits != plainFits(l) || (err == api.OK) != fits {
			t.Errorf("%v: Fits %v, error %d", l, fits, err)
		}
		if !fits {
			continue
		}
		second, _ := Encode(l)
		second = second[:cap(second)]
		for i := range second {
			second[i] = 'w'
		}
		clear(room)
		third, _ := Encode(l)
		if want := plainEncode(l); string(first) != want || string(third) != want {
			t.Errorf("Encode(%v): one answer changed another", l)
		}
	}
}

// R3: what Decode reads stays as it was, what stands behind its end is not read, and the records are the caller's own.
func TestWhatIsDecodedStaysAsItWas(t *testing.T) {
	for _, l := range goodBlocks() {
		whole := plainEncode(l)
		room := []byte(whole + "\x01\x02\x00\x00\x00\x00")
		first, err := Decode(room[:len(whole)])
		if err != api.OK || string(room) != whole+"\x01\x02\x00\x00\x00\x00" {
			t.Errorf("Decode made %x of %x, error %d", room, whole, err)
		}
		second, _ := Decode(room[:len(whole)])
		second = second[:cap(second)]
		for i := range second {
			second[i] = api.Record{Index: -1}
		}
		third, _ := Decode(room[:len(whole)])
		clear(room)
		if !slices.Equal(first, l) || !slices.Equal(third, l) {
			t.Errorf("Decode(%x): one answer changed another", whole)
		}
		for end := range min(len(whole), 100) {
			b := []byte(whole)
			if got, err := Decode(b[:end]); err != api.ErrForm || len(got) != 0 {
				t.Errorf("Decode(%x) with %x behind its end: %v, error %d", b[:end], b[end:], got, err)
			}
		}
	}
}

// R5: the Seqs of one call are not those of the next.
func TestNothingIsKept(t *testing.T) {
	for range 3 {
		for _, l := range [][]api.Record{ofSeqs(2, 7, 8), ofSeqs(2, 9), ofSeqs(2, 3, 2), ofProcs(2, 1, 2)} {
			wantBytes(t, l, plainEncode(l))
		}
		wantNone(t, put(5)+put(1)+plainRecord(some(), -1))
	}
}

// R1: great inputs end.
func TestGreatInputs(t *testing.T) {
	for _, with := range []string{"\x00", "\x01", "\x02", "\x40", "\x7f", "\x80", "\xff"} {
		great := strings.Repeat(with, 1<<22)
		for _, ahead := range []string{"", "\x05", "\x05\x01", "\x05\x80\x02", put(5) + put(257), put(5) + put(topNumber), plainEncode(row(5, mostBlock))} {
			if l, err := Decode([]byte(ahead + great)); err != api.ErrForm || len(l) != 0 {
				t.Errorf("Decode of %x and many %x = %v, error %d", ahead, with, l, err)
			}
		}
	}
	great := row(0, 1<<20)
	if b, err := Encode(great); Fits(great) || err != api.ErrArg || len(b) != 0 {
		t.Errorf("Encode of %d records: %d bytes, error %d", len(great), len(b), err)
	}
}
