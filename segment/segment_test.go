package segment

import (
	"math"
	"slices"
	"strings"
	"testing"

	"ferryman/api"
	"ferryman/schema"
)

// short is the beginning of long bytes, for what a test tells.
func short(b string) string { return b[:min(len(b), 80)] }

// wantSegment asks of Decode that segment.
func wantSegment(t *testing.T, b string, want api.Segment) {
	t.Helper()
	if s, err := Decode([]byte(b)); err != api.OK || !same(s, want) {
		t.Errorf("Decode(%x) = kind %d, first %d, %d records, error %d, want kind %d, first %d, %d records", short(b), s.Kind, s.First, len(s.Records), err, want.Kind, want.First, len(want.Records))
	}
}

// wantError asks of Decode and of Find that error, and nothing else (R4).
func wantError(t *testing.T, b string, want api.Errno) {
	t.Helper()
	if s, err := Decode([]byte(b)); err != want || !isZero(s) {
		t.Errorf("Decode(%x) = kind %d, first %d, %d records, error %d, want error %d", short(b), s.Kind, s.First, len(s.Records), err, want)
	}
	if at, err := Find([]byte(b), 0); err != want || at != 0 {
		t.Errorf("Find(%x, 0) = %d, error %d, want error %d", short(b), at, err, want)
	}
}

// wantRecovered asks of Recover that segment, and so many bytes.
func wantRecovered(t *testing.T, b string, want api.Segment, size int) {
	t.Helper()
	if s, n, is := Recover([]byte(b)); !is || n != size || !same(s, want) {
		t.Errorf("Recover(%x) = kind %d, first %d, %d records, %d bytes, %v, want kind %d, first %d, %d records, %d bytes", short(b), s.Kind, s.First, len(s.Records), n, is, want.Kind, want.First, len(want.Records), size)
	}
}

// wantNothing asks of Recover nothing, 0 and false.
func wantNothing(t *testing.T, b string) {
	t.Helper()
	if s, n, is := Recover([]byte(b)); is || n != 0 || !isZero(s) {
		t.Errorf("Recover(%x) = %v, %d, %v, want nothing", short(b), s, n, is)
	}
}

// wantRefused asks of Encode that error, and nothing.
func wantRefused(t *testing.T, version int, s api.Segment, want api.Errno) {
	t.Helper()
	if b, err := Encode(version, s); err != want || len(b) != 0 {
		t.Errorf("Encode(%d, kind %d, first %d, %d records) = %d bytes, error %d, want error %d", version, s.Kind, s.First, len(s.Records), len(b), err, want)
	}
}

// wantNoBody asks of Body that error, and nothing, and so of Encode.
func wantNoBody(t *testing.T, version int, l []api.Record, want api.Errno) {
	t.Helper()
	if b, err := Body(version, l); err != want || len(b) != 0 {
		t.Errorf("Body(%d, %d records) = %d bytes, error %d, want error %d", version, len(l), len(b), err, want)
	}
	s := api.Segment{Records: l}
	if len(l) > 0 {
		s.First = l[0].Index
	}
	wantRefused(t, version, s, want)
}

// wantEncoded asks of Encode, Head and Body the chapter's bytes, and of Decode and Recover the segment again, upgraded.
func wantEncoded(t *testing.T, version int, s api.Segment) {
	t.Helper()
	whole := plainEncode(version, s)
	if b, err := Encode(version, s); err != api.OK || string(b) != whole {
		t.Errorf("Encode(%d, kind %d, first %d, %d records) = %x, error %d, want %x", version, s.Kind, s.First, len(s.Records), short(string(b)), err, short(whole))
	}
	head := framed(plainHead(version, s.Kind, s.First))
	if b, err := Head(version, s.Kind, s.First); err != api.OK || string(b) != head {
		t.Errorf("Head(%d, %d, %d) = %x, error %d, want %x", version, s.Kind, s.First, b, err, head)
	}
	body := joined(plainBlocks(version, s.Records)...)
	if b, err := Body(version, s.Records); err != api.OK || string(b) != body {
		t.Errorf("Body(%d, %d records) = %x, error %d, want %x", version, len(s.Records), short(string(b)), err, short(body))
	}
	wantSegment(t, whole, plainUpgrade(version, s))
	wantRecovered(t, whole, plainUpgrade(version, s), len(head)+len(body))
}

// P8.1, P8.2, P8.3: the chapter's example, and bytes worked out by hand, the sums too.
func TestExamples(t *testing.T) {
	few := []api.Record{{Index: 5, Proc: 2, Seq: 7}, {Index: 6, Seq: 1, Op: api.Op{Code: api.Add, A: 3}, Resp: 9}}
	for _, c := range []struct {
		version            int
		s                  api.Segment
		head, body, footer string
		read               api.Segment
	}{
		{3, api.Segment{}, "\x04\x6c\x03\x00\x00\x8f\x11\xfc\xbe", "", "\x01\x00\xa5\xef\xc3\xe2", api.Segment{}},
		{
			3, api.Segment{Kind: api.Queue, First: 7, Records: []api.Record{{Index: 7, Proc: 1, Seq: 5}, {Index: 8, Proc: 1, Seq: 6}}},
			"\x04\x6c\x03\x02\x07\x8a\x45\x73\x4d",
			"\x0e\x07\x02\x01\x0a\x00\x00\x00\x00\x01\x02\x00\x00\x00\x00\xdb\xef\x89\xd4",
			"\x02\x01\x09\xcc\xb2\x1b\x44",
			api.Segment{Kind: api.Queue, First: 7, Records: []api.Record{{Index: 7, Proc: 1, Seq: 5}, {Index: 8, Proc: 1, Seq: 6}}},
		},
		{
			1, api.Segment{Kind: api.Ledger, First: 5, Records: few[:1]},
			"\x04\x6c\x01\x05\x05\x35\xae\x4a\x99",
			"\x0a\x09\x01\x01\x05\x02\x02\x04\x00\x00\x00\xf2\xd6\x01\x00",
			"\x02\x01\x09\xcc\xb2\x1b\x44",
			api.Segment{Kind: api.Ledger, First: 5, Records: []api.Record{{Index: 5, Proc: 2}}},
		},
		{
			2, api.Segment{First: 5, Records: few},
			"\x04\x6c\x02\x00\x05\xed\x97\x4c\x2e",
			"\x18\x0b\x02\x01\x05\x02\x02\x03\x07\x04\x00\x00\x00\x0b\x02\x01\x06\x02\x00\x03\x01\x04\x01\x06\x00\x8d\xf9\x9f\x77",
			"\x02\x01\x09\xcc\xb2\x1b\x44",
			api.Segment{First: 5, Records: []api.Record{few[0], {Index: 6, Seq: 1, Op: api.Op{Code: api.Add, A: 3}}}},
		},
	} {
		head, err := Head(c.version, c.s.Kind, c.s.First)
		if err != api.OK || string(head) != c.head {
			t.Errorf("Head(%d, %v) = %x, error %d, want %x", c.version, c.s, head, err, c.head)
		}
		body, err := Body(c.version, c.s.Records)
		if err != api.OK || string(body) != c.body {
			t.Errorf("Body(%d, %v) = %x, error %d, want %x", c.version, c.s, body, err, c.body)
		}
		whole, err := Encode(c.version, c.s)
		if err != api.OK || string(whole) != c.head+c.body+c.footer {
			t.Errorf("Encode(%d, %v) = %x, error %d, want %x", c.version, c.s, whole, err, c.head+c.body+c.footer)
		}
		wantSegment(t, c.head+c.body+c.footer, c.read)
		wantRecovered(t, c.head+c.body, c.read, len(c.head+c.body))
	}
}

// P8.2: a footer of several blocks, by hand: each place less the one ahead.
func TestAFooterOfSeveralBlocks(t *testing.T) {
	s := api.Segment{Records: make([]api.Record, 33)}
	for i := range s.Records {
		s.Records[i].Index = i
	}
	b, err := Encode(3, s)
	// A record of noughts takes 6 bytes: with its index and its count a block of sixteen has 98, and its frame 103.
	if want := framed("\x03\x09\x67\x67"); err != api.OK || !strings.HasSuffix(string(b), want) {
		t.Errorf("Encode: %x, error %d, want %x at its end", b, err, want)
	}
	for index, want := range map[int]int{0: 9, 15: 9, 16: 112, 31: 112, 32: 215} {
		if at, err := Find(b, index); err != api.OK || at != want {
			t.Errorf("Find(%d) = %d, error %d, want %d", index, at, err, want)
		}
	}
}

// P8.2, P8.3, P8.4, P8.6: what was encoded, in each version, is decoded as its upgrade.
func TestWhatWasEncodedIsDecoded(t *testing.T) {
	for _, s := range goodSegments() {
		for version := 1; version <= 3; version++ {
			wantEncoded(t, version, s)
		}
	}
}

// P8.1, P8.2: how many records there are.
func TestHowManyRecords(t *testing.T) {
	for version := 1; version <= 3; version++ {
		for _, count := range []int{0, 1, 15, 16, 17, 32, 33, 4095, 4096} {
			wantEncoded(t, version, ofRow(api.Stack, 3, count))
			body, _ := Body(version, row(3, count))
			if parts := plainBlocks(version, row(3, count)); len(parts) != (count+15)/16 || string(body) != joined(parts...) {
				t.Errorf("Body(%d, %d records): %d blocks", version, count, len(parts))
			}
		}
		for _, count := range []int{4097, 4112, 5000, 1 << 16} {
			wantNoBody(t, version, row(3, count), api.ErrArg)
		}
	}
}

// P8.1, P8.2: the numbers of a head, and the order of its errors.
func TestHeads(t *testing.T) {
	for version := 1; version <= 3; version++ {
		for kind := 0; kind <= 5; kind++ {
			for _, first := range []int{0, 1, 127, 128, 1 << 32, topNumber - 1, topNumber} {
				wantEncoded(t, version, api.Segment{Kind: kind, First: first})
				wantEncoded(t, version, ofRow(kind, first, 1))
			}
		}
	}
	refuse := func(version, kind, first int, want api.Errno) {
		t.Helper()
		if b, err := Head(version, kind, first); err != want || len(b) != 0 {
			t.Errorf("Head(%d, %d, %d) = %x, error %d, want error %d", version, kind, first, b, err, want)
		}
		wantRefused(t, version, api.Segment{Kind: kind, First: first}, want)
	}
	for version := 1; version <= 3; version++ {
		for _, kind := range wrongKinds() {
			refuse(version, kind, 0, api.ErrArg)
			wantRefused(t, version, ofRow(kind, 4, 20), api.ErrArg)
			for _, first := range wrongFirsts() {
				refuse(version, kind, first, api.ErrArg)
			}
		}
		for _, first := range wrongFirsts() {
			refuse(version, api.Ledger, first, api.ErrArg)
		}
	}
	for _, version := range wrongVersions() {
		refuse(version, 0, 0, api.ErrVersion)
		refuse(version, 6, 0, api.ErrVersion)
		refuse(version, 0, -1, api.ErrVersion)
		refuse(version, -1, 1<<62, api.ErrVersion)
	}
}

// P8.1, P8.2: of a version that there is not, ErrVersion, whatever the records.
func TestVersionsThatThereAreNot(t *testing.T) {
	for _, version := range wrongVersions() {
		for _, l := range [][]api.Record{nil, row(3, 1), row(3, 33), row(3, 4097), {{Index: -1}}, {{Index: 2}, {Index: 4}}} {
			wantNoBody(t, version, l, api.ErrVersion)
		}
		wantRefused(t, version, api.Segment{First: 4, Records: row(5, 1)}, api.ErrVersion)
	}
}

// P8.1, P8.2: a record that does not fit, by each of its numbers and at several places.
func TestARecordThatDoesNotFit(t *testing.T) {
	for version := 1; version <= 3; version++ {
		for _, wrong := range wrongRecords() {
			for _, place := range []int{0, 1, 14, 15, 16, 32} {
				l := row(100, 33)
				wrong.Index = 100 + place
				l[place] = wrong
				wantNoBody(t, version, l, api.ErrArg)
			}
		}
		for _, index := range []int{math.MinInt, -2, -1, 1 << 62, math.MaxInt} {
			wantNoBody(t, version, []api.Record{{Index: index}}, api.ErrArg)
		}
		l := row(3, 4096)
		l[4095].Resp = topResp + 1
		wantNoBody(t, version, l, api.ErrArg)
	}
}

// P8.1, P8.2: indices that do not go on, within a block and from one to the next.
func TestIndicesThatDoNotGoOn(t *testing.T) {
	for version := 1; version <= 3; version++ {
		for _, other := range []int{-2, -1, 1, 2, 16, 1 << 32, 1 << 61} {
			for _, place := range []int{1, 2, 15, 16, 17, 32, 39} {
				l := row(50, 40)
				l[place].Index += other
				wantNoBody(t, version, l, api.ErrArg)
				l = row(50, 40)
				for i := range l[place:] {
					l[place+i].Index += other
				}
				wantNoBody(t, version, l, api.ErrArg)
			}
		}
		wantNoBody(t, version, []api.Record{{Index: 3}, {Index: 3}}, api.ErrArg)
		wantNoBody(t, version, []api.Record{{Index: 4}, {Index: 3}}, api.ErrArg)
		wantNoBody(t, version, []api.Record{{Index: topNumber}, {Index: 0}}, api.ErrArg)
		wantNoBody(t, version, []api.Record{{Index: math.MaxInt}, {Index: math.MinInt}}, api.ErrArg)
	}
}

// P8.2: records that begin elsewhere than First says; P8.1: Body takes them from any index on.
func TestWhereRecordsBegin(t *testing.T) {
	for version := 1; version <= 3; version++ {
		for _, first := range []int{0, 1, 15, 16, 17, 127, 1 << 40, topNumber - 39} {
			l := row(first, 40)
			if b, err := Body(version, l); err != api.OK || string(b) != joined(plainBlocks(version, l)...) {
				t.Errorf("Body(%d, records from %d on) = %x, error %d", version, first, b, err)
			}
			for _, other := range []int{-1, 1, 16, -16, 1 << 32} {
				wantRefused(t, version, api.Segment{First: first + other, Records: l}, api.ErrArg)
			}
		}
	}
}

// P8.1, P8.2: the last index is 2^62 - 1, or would be 2^62.
func TestTheLastIndex(t *testing.T) {
	for version := 1; version <= 3; version++ {
		for _, count := range []int{1, 2, 15, 16, 17, 33, 4096} {
			wantEncoded(t, version, ofRow(api.Counter, topNumber-count+1, count))
			wantNoBody(t, version, row(topNumber-count+2, count), api.ErrArg)
		}
	}
}

// P8.3: the errors of frames, ahead of all others; P8.4: what stands behind a whole head is none.
func TestDecodeOfFramesThatAreNone(t *testing.T) {
	for version := 1; version <= 3; version++ {
		s := ofRow(api.Queue, 10, 33)
		parts := plainParts(version, s)
		head := framed(parts[0])
		for _, c := range []struct {
			with string
			want api.Errno
		}{
			{"\x80", api.ErrMore}, {"\x05abc", api.ErrMore}, {"\x80\x00", api.ErrForm}, {strings.Repeat("\xff", 10), api.ErrForm},
			{put(1<<20 + 1), api.ErrTooLarge}, {put(topNumber), api.ErrTooLarge}, {"\x00\x00\x00\x00\x00", api.ErrSum}, {put(1 << 20), api.ErrMore},
		} {
			wantError(t, c.with, c.want)
			wantNothing(t, c.with)
			wantError(t, framed("no head")+c.with, c.want)
			wantError(t, head+c.with, c.want)
			wantRecovered(t, head+c.with, api.Segment{Kind: api.Queue, First: 10}, len(head))
			wantError(t, joined(parts...)+c.with, c.want)
			wantRecovered(t, joined(parts...)+c.with, plainUpgrade(version, s), len(joined(parts[:4]...)))
		}
	}
	wantError(t, "\x80\x00"+framed("x")[:3], api.ErrForm)
	wantError(t, "\x00\x00\x00\x00\x00\x80\x00", api.ErrSum)
}

// P8.3, P3: any frame with a wrong sum, or any bit turned.
func TestDecodeOfTurnedBits(t *testing.T) {
	for version := 1; version <= 3; version++ {
		whole := plainEncode(version, ofRow(api.Queue, 10, 33))
		parts := plainParts(version, ofRow(api.Queue, 10, 33))
		end := 0
		for i := range parts {
			end += len(framed(parts[i]))
			b := []byte(whole)
			b[end-1] ^= 0x10
			wantError(t, string(b), api.ErrSum)
			b[end-1] ^= 0x10
			b[end-5] ^= 0x10
			wantError(t, string(b), api.ErrSum)
		}
		for at := range len(whole) {
			for bit := range 8 {
				b := []byte(whole)
				b[at] ^= 1 << bit
				if _, err := Decode(b); err == api.OK {
					t.Errorf("version %d: Decode takes bytes whose bit %d of byte %d was turned", version, bit, at)
				}
			}
		}
	}
}

// P8.3: no bytes, and one frame alone, whatever it holds.
func TestDecodeOfFewFrames(t *testing.T) {
	if s, err := Decode(nil); err != api.ErrEnd || !isZero(s) {
		t.Error(s, err)
	}
	wantError(t, "", api.ErrEnd)
	wantNothing(t, "")
	if s, n, is := Recover(nil); is || n != 0 || !isZero(s) {
		t.Error(s, n, is)
	}
	for _, data := range []string{"", "\x00", "x", plainHead(3, 0, 0), plainHead(4, 0, 0), plainHead(3, 6, 0), plainBlock(3, row(0, 3))} {
		wantError(t, framed(data), api.ErrEnd)
	}
	for version := 1; version <= 3; version++ {
		wantRecovered(t, framed(plainHead(version, 4, 9)), api.Segment{Kind: 4, First: 9}, len(framed(plainHead(version, 4, 9))))
	}
}

// wrongHeads are the data of frames that are no head, by the error that they ask for.
func wrongHeads() map[api.Errno][]string {
	form := []string{"", "\x00", "\x6c", "\x6c\x03", "\x6c\x03\x00", "\x6c\x03\x00\x80", "\x6c\x80", "\x03\x00\x00", "\x6c\x04", "\x6c\x04\x06", "\x6c\x03\x06"}
	for _, head := range []string{plainHead(1, 0, 0), plainHead(2, 5, 300), plainHead(3, 1, topNumber), plainHead(4, 0, 0), plainHead(3, 6, 0)} {
		for _, magic := range []string{"\x00", "\x6b", "\x6d", "\x73", "\xec", "\x4c", ""} {
			form = append(form, magic+head[1:])
		}
		form = append(form, "\x00"+head, head+"\x00", head+"\x80", head+"\x6c", head+head)
	}
	for _, none := range noNumbers() {
		form = append(form, "\x6c"+none+put(0)+put(0), "\x6c"+put(3)+none+put(0), "\x6c"+put(3)+put(0)+none)
		form = append(form, "\x6c"+none+put(6)+put(0), "\x6c"+put(4)+none+put(0), "\x6c"+put(4)+put(6)+none)
	}
	var version, arg []string
	for _, wrong := range []int{0, 4, 5, 127, 128, 256 + 1, 1<<32 + 3, topNumber} {
		version = append(version, plainHead(wrong, 0, 0), plainHead(wrong, 6, 0), plainHead(wrong, topNumber, topNumber))
	}
	for _, wrong := range []int{6, 7, 127, 128, 256, 1 << 32, topNumber} {
		arg = append(arg, plainHead(1, wrong, 0), plainHead(2, wrong, topNumber), plainHead(3, wrong, 5))
	}
	return map[api.Errno][]string{api.ErrForm: form, api.ErrVersion: version, api.ErrArg: arg}
}

// P8.3, P8.4: a head that is none, with a right footer, a wrong one, and behind it blocks, and what is no block.
func TestDecodeOfWrongHeads(t *testing.T) {
	for want, heads := range wrongHeads() {
		for _, head := range heads {
			for _, blocks := range [][]string{nil, {plainBlock(3, row(0, 3))}, {plainBlock(1, row(0, 16)), plainBlock(1, row(16, 1))}, {"\x00"}} {
				parts := append([]string{head}, blocks...)
				for _, footer := range []string{plainFooter(head, blocks), "\x00", "\x07", "x"} {
					wantError(t, joined(append(parts, footer)...), want)
					wantNothing(t, joined(append(parts, footer)...))
				}
				wantNothing(t, joined(parts...))
			}
		}
	}
}

// wrongFields are a record of version 1 and 2 as schema takes it, or nearly so, that is none of Encode in that version.
func wrongFields(version int, r api.Record) []string {
	record := func(version int, r api.Record) string {
		b, err := schema.Encode(version, r)
		if err != api.OK {
			panic("no record")
		}
		return string(b)
	}
	good := record(version, r)
	return []string{
		record(3-version, r), record(3, r), "", good[:len(good)-1], good + "\x00", "\x00" + good[1:], "\x04" + good[1:],
		good + "\x10\x00", good + "\x10\x02ab", good + "\x11\x01a\xac\x02\x00", good + "\x10\x03ab",
		good + "\x05\x00", good + good, "\x80\x00" + good[1:], string(good[0]) + "\x01\x80\x00" + good[3:],
	}
}

// P8.3, P8.4: a frame that is no block of that version, at any place.
func TestDecodeOfNoBlocks(t *testing.T) {
	for version := 1; version <= 3; version++ {
		for ahead := range 3 {
			first := 200 + 16*ahead
			l := row(first, 3)
			good := plainBlock(version, l)
			wrong := []string{"", "\x00", "\x01", "\x80", good[1:], good[:len(good)-1], good + "\x00", good + "\x80", good + good, plainHead(version, 1, first), plainFooter(plainHead(version, 1, 200), []string{good})}
			for other := 1; other <= 3; other++ {
				if other != version {
					wrong = append(wrong, plainBlock(other, l))
				}
			}
			if version == 3 {
				wrong = append(wrong, put(first)+put(0), put(first)+put(2)+good[3:], put(first)+put(4)+good[3:], put(first)+"\x83\x00"+good[3:])
			} else {
				for _, bytes := range wrongFields(version, l[2]) {
					wrong = append(wrong, plainBlock(version, l[:2])+put(len(bytes))+bytes)
				}
				one := plainBlock(version, l[:1])
				wrong = append(wrong, one[1:], put(int(one[0])+1)+one[1:], put(int(one[0])-1)+one[1:], string([]byte{one[0] | 128, 0})+one[1:], put(topNumber)+one[1:])
				wrong = append(wrong, plainBlock(version, []api.Record{l[0], l[2]}), plainBlock(version, []api.Record{l[0], l[0]}), plainBlock(version, []api.Record{l[0], l[1], l[1]}))
			}
			for _, data := range wrong {
				wantNoBlock(t, version, ahead, data)
			}
			for _, r := range wrongRecords() {
				if r.Index = first; r.Proc < 0 || r.Op.Code < 0 || r.Proc > topNumber || r.Op.Code > topNumber {
					continue // no bytes can tell it
				}
				wantNoBlock(t, version, ahead, untold(version, r))
			}
		}
	}
}

// untold is a block of one record, in a version, as it would be if that one fitted.
func untold(version int, r api.Record) string {
	op := put(r.Op.Code) + putSigned(r.Op.A) + putSigned(r.Op.B)
	if version == 3 {
		return put(r.Index) + put(1) + put(r.Proc) + putSigned(r.Seq) + op + putSigned(r.Resp)
	}
	data := put(version) + "\x01" + put(r.Index) + "\x02" + put(r.Proc)
	if version == 2 {
		data += "\x03" + put(r.Seq)
	}
	data += "\x04" + op
	if r.Resp < -topResp || r.Resp > topResp || version == 1 && (r.Seq < 0 || r.Seq > topNumber) {
		data += "\x00" // the version does not tell what is wrong of it
	}
	return put(len(data)) + data
}

// wantNoBlock asks of Decode ErrForm for data that stand behind so many whole blocks from index 200 on, and of Recover those blocks.
func wantNoBlock(t *testing.T, version, ahead int, data string) {
	t.Helper()
	s := ofRow(api.Register, 200, 16*ahead)
	head, blocks := plainHead(version, s.Kind, s.First), plainBlocks(version, s.Records)
	size := len(joined(append([]string{head}, blocks...)...))
	for _, behind := range [][]string{nil, {plainBlock(version, row(200+16*ahead, 16))}, {"no block"}} {
		all := slices.Concat(blocks, []string{data}, behind)
		for _, footer := range []string{plainFooter(head, all), "\x00"} {
			b := joined(slices.Concat([]string{head}, all, []string{footer})...)
			wantError(t, b, api.ErrForm)
			wantRecovered(t, b, plainUpgrade(version, s), size)
		}
		wantRecovered(t, joined(slices.Concat([]string{head}, all)...), plainUpgrade(version, s), size)
	}
}

// P8.3, P8.4: blocks of 17 records and more, and ones of fewer than 16 that are not the last.
func TestDecodeOfBlocksOfWrongLength(t *testing.T) {
	for version := 1; version <= 3; version++ {
		for ahead := range 3 {
			for _, count := range []int{17, 18, 32, 33, 255, 256} {
				wantNoBlock(t, version, ahead, plainBlock(version, row(200+16*ahead, count)))
			}
		}
		for _, count := range []int{1, 2, 8, 15} {
			for _, next := range []int{1, 16 - count, 15, 16} {
				l := row(40, 16+count+next)
				head := plainHead(version, 2, 40)
				blocks := []string{plainBlock(version, l[:16]), plainBlock(version, l[16:16+count]), plainBlock(version, l[16+count:])}
				b := joined(slices.Concat([]string{head}, blocks, []string{plainFooter(head, blocks)})...)
				wantError(t, b, api.ErrForm)
				want := plainUpgrade(version, api.Segment{Kind: 2, First: 40, Records: l[:16+count]})
				wantRecovered(t, b, want, len(joined(head, blocks[0], blocks[1])))
			}
		}
	}
}

// P8.3, P8.4: a block whose first index does not go on.
func TestDecodeOfBlocksThatDoNotGoOn(t *testing.T) {
	for version := 1; version <= 3; version++ {
		for ahead := range 3 {
			for _, other := range []int{-200, -17, -16, -1, 1, 16, 17, 1 << 32, topNumber - 300} {
				wantNoBlock(t, version, ahead, plainBlock(version, row(200+16*ahead+other, 16)))
				wantNoBlock(t, version, ahead, plainBlock(version, row(200+16*ahead+other, 1)))
			}
		}
		// Behind the last index of all there is none.
		full := ofRow(api.Counter, topNumber-15, 16)
		head, block := plainHead(version, 0, full.First), plainBlock(version, full.Records)
		for _, next := range []int{0, topNumber, topNumber - 15} {
			blocks := []string{block, plainBlock(version, row(next, 1))}
			b := joined(slices.Concat([]string{head}, blocks, []string{plainFooter(head, blocks)})...)
			wantError(t, b, api.ErrForm)
			wantRecovered(t, b, plainUpgrade(version, full), len(joined(head, block)))
		}
	}
}

// P8.3, P8.4: more than 4096 records.
func TestDecodeOfTooMany(t *testing.T) {
	for version := 1; version <= 3; version++ {
		s := ofRow(api.Store, 30, 4096)
		head, blocks := plainHead(version, s.Kind, s.First), plainBlocks(version, s.Records)
		full := joined(append([]string{head}, blocks...)...)
		footer := func(behind ...string) string { return framed(plainFooter(head, slices.Concat(blocks, behind))) }
		wantSegment(t, full+footer(), plainUpgrade(version, s))
		for _, count := range []int{1, 15, 16} {
			more := plainBlock(version, row(30+4096, count))
			for _, behind := range []string{footer(more), footer(), framed("x"), framed("no block") + framed("\x00")} {
				wantError(t, full+framed(more)+behind, api.ErrTooLarge)
				wantRecovered(t, full+framed(more)+behind, plainUpgrade(version, s), len(full))
			}
			wantRecovered(t, full+framed(more), plainUpgrade(version, s), len(full))
		}
		// What is no block is none also there.
		for _, wrong := range []string{"", plainBlock(version, row(30+4097, 1)), plainBlock(version, row(30+4096, 17)), plainBlock(1+version%3, row(30+4096, 1))} {
			wantError(t, full+framed(wrong)+footer(wrong), api.ErrForm)
			wantRecovered(t, full+framed(wrong)+footer(wrong), plainUpgrade(version, s), len(full))
		}
	}
}

// P8.3: footers that tell another count, another place, or have something behind them; one twice, and none.
func TestDecodeOfWrongFooters(t *testing.T) {
	for version := 1; version <= 3; version++ {
		for _, count := range []int{0, 1, 16, 17, 33, 2100} {
			s := ofRow(api.Ledger, 10, count)
			parts := plainParts(version, s)
			last := len(parts) - 1
			ahead, footer := joined(parts[:last]...), parts[last]
			blocks := last - 1
			wrong := []string{"", footer + "\x00", footer + "\x09", footer + "\x80", footer + footer, "\x00" + footer, put(blocks+1) + footer[len(put(blocks)):], put(blocks+1) + footer[len(put(blocks)):] + "\x09", plainHead(version, 5, 10)}
			if blocks > 0 {
				wrong = append(wrong, "\x00", put(blocks-1)+footer[len(put(blocks)):], put(blocks), footer[:len(footer)-1], plainFooter(parts[0], parts[1:last-1]), plainBlock(version, row(10+count, 1)))
			}
			for at := range len(footer) {
				if blocks > 100 && at%20 > 3 {
					continue
				}
				for _, by := range []byte{1, 0x40, 0x80} {
					b := []byte(footer)
					b[at] ^= by
					wrong = append(wrong, string(b))
				}
				if footer[at] < 128 {
					wrong = append(wrong, footer[:at]+string([]byte{footer[at] | 128, 0})+footer[at+1:])
				}
			}
			for _, data := range wrong {
				wantError(t, ahead+framed(data), api.ErrEnd)
				if blocks < 100 {
					got, size, _ := plainRecover(ahead + framed(data))
					wantRecovered(t, ahead+framed(data), got, size)
				}
			}
			wantError(t, ahead, api.ErrEnd)
			wantError(t, ahead+framed(footer)+framed(footer), api.ErrForm)
		}
	}
}

// P8.3: places that are told from the beginning of the whole, or as the frames' ends, are others.
func TestPlacesAreToldLessTheOneAhead(t *testing.T) {
	parts := plainParts(3, ofRow(api.Counter, 0, 48))
	sizes := []int{len(framed(parts[0])), len(framed(parts[1])), len(framed(parts[2])), len(framed(parts[3]))}
	ahead := joined(parts[:4]...)
	wantSegment(t, ahead+framed(put(3)+put(sizes[0])+put(sizes[1])+put(sizes[2])), ofRow(api.Counter, 0, 48))
	wantError(t, ahead+framed(put(3)+put(sizes[0])+put(sizes[0]+sizes[1])+put(sizes[0]+sizes[1]+sizes[2])), api.ErrEnd)
	wantError(t, ahead+framed(put(3)+put(sizes[1])+put(sizes[2])+put(sizes[3])), api.ErrEnd)
	wantError(t, ahead+framed(put(3)+put(0)+put(sizes[1])+put(sizes[2])), api.ErrEnd)
}

// P8.3, R2: where more than one error fits, the one that is named first.
func TestTheOrderOfErrors(t *testing.T) {
	good := plainBlock(3, row(0, 16))
	cut := framed("x")[:3]
	for _, c := range []struct {
		b    string
		want api.Errno
	}{
		{framed("no head") + cut, api.ErrMore},
		{framed(plainHead(4, 0, 0)) + "\x80\x00", api.ErrForm},
		{framed("no head"), api.ErrEnd},
		{framed(plainHead(4, 9, 0)), api.ErrEnd},
		{joined("\x6d\x04\x09\x00", "x"), api.ErrForm},
		{joined("\x6c\x04\x09\x00\x00", "x"), api.ErrForm},
		{joined("\x6c\x04\x09\x00", "no block", "x"), api.ErrVersion},
		{joined("\x6c\x03\x09\x00", "no block", "x"), api.ErrArg},
		{joined("\x6c\x03\x09\x00", "x"), api.ErrArg},
		{joined("\x6c\x03\x05\x00", "no block", "x"), api.ErrForm},
		{joined("\x6c\x03\x05\x00", good, "no block", "x"), api.ErrForm},
		{joined("\x6c\x03\x05\x00", good, "x"), api.ErrEnd},
		{joined("\x6c\x03\x05\x00", good), api.ErrEnd},
		{joined("\x6c\x03\x05\x00", "x"), api.ErrEnd},
	} {
		wantError(t, c.b, c.want)
	}
	many := slices.Concat([]string{plainHead(3, 5, 0)}, plainBlocks(3, row(0, 4112)))
	wantError(t, joined(append(many, "no block", "x")...), api.ErrTooLarge)
	many[200] = "no block"
	wantError(t, joined(append(many, "x")...), api.ErrForm)
}

// P8.3, P8.4, P8.6, P2: bytes cut at every place.
func TestCutBytes(t *testing.T) {
	for _, s := range []api.Segment{{}, {Kind: api.Ledger, First: topNumber}, ofRow(api.Counter, 0, 1), ofRow(api.Counter, 0, 16), ofRow(api.Queue, 10, 40), ofRow(api.Stack, topNumber-47, 48), ofRow(api.Store, 300, 200)} {
		for version := 1; version <= 3; version++ {
			parts := plainParts(version, s)
			whole := joined(parts...)
			want := plainUpgrade(version, s)
			at := 0 // that the next frame ends
			var ends []int
			for _, data := range parts {
				at += len(framed(data))
				ends = append(ends, at)
			}
			for end := range len(whole) {
				if got, err := Decode([]byte(whole[:end])); err == api.OK || !isZero(got) {
					t.Errorf("Decode takes %d bytes of %d", end, len(whole))
				}
				frames, isEnd := slices.BinarySearch(ends, end)
				if isEnd {
					frames++
					wantError(t, whole[:end], api.ErrEnd)
				} else if end > 0 {
					wantError(t, whole[:end], api.ErrMore)
				}
				if frames == 0 {
					wantNothing(t, whole[:end])
					continue
				}
				count := min(16*(frames-1), len(s.Records))
				wantRecovered(t, whole[:end], api.Segment{Kind: s.Kind, First: s.First, Records: want.Records[:count]}, ends[frames-1])
			}
		}
	}
}

// P8.1, P8.4: a segment that is written block by block has the bytes of the whole, but for its footer.
func TestASegmentWrittenBlockByBlock(t *testing.T) {
	for version := 1; version <= 3; version++ {
		for _, count := range []int{16, 33, 160, 4096} {
			s := ofRow(api.Stack, 77, count)
			want := plainUpgrade(version, s)
			b, err := Head(version, s.Kind, s.First)
			if err != api.OK {
				t.Fatal(err)
			}
			wantRecovered(t, string(b), api.Segment{Kind: s.Kind, First: s.First}, len(b))
			for at := 0; at < count; at += 16 {
				end := min(at+16, count)
				body, err := Body(version, s.Records[at:end])
				if err != api.OK {
					t.Fatal(err)
				}
				b = append(b, body...)
				if count < 200 || end == count {
					wantRecovered(t, string(b), api.Segment{Kind: s.Kind, First: s.First, Records: want.Records[:end]}, len(b))
					wantError(t, string(b), api.ErrEnd)
				}
			}
			whole, _ := Encode(version, s)
			if !strings.HasPrefix(string(whole), string(b)) {
				t.Errorf("version %d, %d records: block by block it has other bytes", version, count)
			}
			wantSegment(t, string(b)+framed(plainParts(version, s)[(count+15)/16+1]), want)
		}
	}
}

// P8.4: a block of fewer than 16 ends what is recovered, also where a footer once stood.
func TestRecoverBehindAShortBlock(t *testing.T) {
	for version := 1; version <= 3; version++ {
		head, _ := Head(version, api.Queue, 4)
		few, _ := Body(version, row(4, 3))
		more, _ := Body(version, row(7, 16))
		want := plainUpgrade(version, ofRow(api.Queue, 4, 3))
		wantRecovered(t, string(head)+string(few)+string(more), want, len(head)+len(few))
		wantError(t, string(head)+string(few)+string(more)+framed("x"), api.ErrForm)
		whole, _ := Encode(version, ofRow(api.Queue, 4, 16))
		next, _ := Body(version, row(20, 16))
		size := len(whole) - len(framed(plainParts(version, ofRow(api.Queue, 4, 16))[2]))
		wantRecovered(t, string(whole)+string(next), plainUpgrade(version, ofRow(api.Queue, 4, 16)), size)
	}
}

// P8.5: each index, the ones around, and ones far away.
func TestFind(t *testing.T) {
	for _, s := range []api.Segment{{}, {First: topNumber}, ofRow(api.Queue, 0, 1), ofRow(api.Queue, 10, 16), ofRow(api.Queue, 10, 17), ofRow(api.Store, 127, 100), ofRow(api.Counter, topNumber-40, 41), ofRow(api.Ledger, 3, 4096)} {
		for version := 1; version <= 3; version++ {
			parts := plainParts(version, s)
			b := []byte(joined(parts...))
			at := len(framed(parts[0]))
			step := 1 + len(s.Records)/100 // of many records some are enough
			for i := range s.Records {
				if i > 0 && i%16 == 0 {
					at += len(framed(parts[i/16]))
				}
				if i%step > 0 && i < len(s.Records)-1 {
					continue
				}
				if got, err := Find(b, s.First+i); err != api.OK || got != at {
					t.Errorf("version %d: Find(%d) = %d, error %d, want %d", version, s.First+i, got, err, at)
				}
			}
			behind := s.First + len(s.Records)
			for _, index := range []int{s.First - 1, s.First - 16, behind, behind + 1, behind + 16, -1, 1 << 62, math.MinInt, math.MinInt + 1, math.MaxInt} {
				if got, err := Find(b, index); err != api.ErrNone || got != 0 {
					t.Errorf("version %d: Find(%d) = %d, error %d, want ErrNone", version, index, got, err)
				}
			}
			if _, err := Find(b[:len(b)-1], s.First); err != api.ErrMore {
				t.Errorf("Find of cut bytes: error %d", err)
			}
		}
	}
}

// P8.5: where Find tells, the block's frame stands.
func TestABlockStandsWhereItIsFound(t *testing.T) {
	s := ofRow(api.Store, 500, 100)
	for version := 1; version <= 3; version++ {
		b, _ := Encode(version, s)
		for index := 500; index < 600; index++ {
			at, err := Find(b, index)
			from := (index - 500) / 16 * 16
			want, _ := Body(version, s.Records[from:min(from+16, 100)])
			if err != api.OK || !strings.HasPrefix(string(b[at:]), string(want)) {
				t.Errorf("version %d: at %d, error %d, stands no block of %d", version, at, err, index)
			}
			wantRecovered(t, string(b[:at]), plainUpgrade(version, api.Segment{Kind: s.Kind, First: 500, Records: s.Records[:from]}), at)
		}
	}
}

// P8.3, P8.4, P8.6: bytes of all sorts, by the chapter's words; what is decoded is encoded as the same bytes.
func TestBytesByTheChaptersWords(t *testing.T) {
	told := map[api.Errno]int{}
	spoiled(func(b string) {
		version, want, err := plainDecode(b)
		told[err]++
		if err != api.OK {
			wantError(t, b, err)
		} else {
			wantSegment(t, b, want)
			s, _ := Decode([]byte(b))
			if again, err := Encode(version, s); err != api.OK || string(again) != b {
				t.Errorf("Decode(%x) is encoded as %x, error %d", b, again, err)
			}
		}
		if s, size, is := plainRecover(b); is {
			wantRecovered(t, b, s, size)
		} else {
			wantNothing(t, b)
		}
	})
	for _, err := range []api.Errno{api.OK, api.ErrForm, api.ErrEnd, api.ErrVersion, api.ErrArg} {
		if told[err] < 20 {
			t.Errorf("of error %d there were %d alone", err, told[err])
		}
	}
}

// R3: what Encode and Body are handed stays as it was, also behind its end, and the bytes are the caller's own.
func TestWhatIsEncodedStaysAsItWas(t *testing.T) {
	for _, s := range append(goodSegments(), ofRow(0, 5, 4097), api.Segment{First: 3, Records: row(4, 20)}) {
		for version := 1; version <= 3; version++ {
			room := append(slices.Clone(s.Records), some(), some())
			was := slices.Clone(room)
			lent := api.Segment{Kind: s.Kind, First: s.First, Records: room[:len(s.Records)]}
			whole, err := Encode(version, lent)
			body, bodyErr := Body(version, lent.Records)
			if !slices.Equal(room, was) {
				t.Errorf("Encode and Body made %v of %v", room, was)
			}
			if (err == api.OK) != plainMay(s) || (bodyErr == api.OK) != plainFollow(s.Records) {
				t.Errorf("kind %d, first %d, %d records: errors %d and %d", s.Kind, s.First, len(s.Records), err, bodyErr)
			}
			if err != api.OK {
				continue
			}
			head, _ := Head(version, s.Kind, s.First)
			for _, again := range []func() ([]byte, api.Errno){
				func() ([]byte, api.Errno) { return Encode(version, s) },
				func() ([]byte, api.Errno) { return Body(version, s.Records) },
				func() ([]byte, api.Errno) { return Head(version, s.Kind, s.First) },
			} {
				b, _ := again()
				b = b[:cap(b)]
				for i := range b {
					b[i] = 'w'
				}
			}
			clear(room)
			if string(whole) != plainEncode(version, s) || string(body) != joined(plainBlocks(version, s.Records)...) || string(head) != framed(plainHead(version, s.Kind, s.First)) {
				t.Errorf("version %d, %d records: one answer changed another", version, len(s.Records))
			}
			wantEncoded(t, version, s)
		}
	}
}

// R3: what Decode, Recover and Find read stays as it was, what stands behind its end is not read, and the records are the caller's own.
func TestWhatIsDecodedStaysAsItWas(t *testing.T) {
	for _, s := range goodSegments() {
		for version := 1; version <= 3; version++ {
			want := plainUpgrade(version, s)
			whole := plainEncode(version, s)
			behind := framed(plainBlock(version, row(9, 1)))
			room := []byte(whole + behind)
			lent := room[:len(whole)]
			decoded, err := Decode(lent)
			recovered, _, is := Recover(lent)
			Find(lent, s.First)
			if err != api.OK || !is || string(room) != whole+behind {
				t.Errorf("Decode, Recover and Find made %x of %x, error %d", room, whole, err)
			}
			for _, again := range []func() api.Segment{
				func() api.Segment { x, _ := Decode(lent); return x },
				func() api.Segment { x, _, _ := Recover(lent); return x },
			} {
				l := again().Records
				l = l[:cap(l)]
				for i := range l {
					l[i] = api.Record{Index: -1}
				}
			}
			clear(room)
			if !same(decoded, want) || !same(recovered, want) {
				t.Errorf("version %d, %d records: one answer changed another", version, len(s.Records))
			}
		}
	}
}

// R5: what was asked before changes nothing.
func TestNothingIsKept(t *testing.T) {
	for range 3 {
		for _, s := range []api.Segment{ofRow(2, 5, 20), {}, ofRow(3, 0, 16), ofRow(2, 5, 19)} {
			for version := 1; version <= 3; version++ {
				wantEncoded(t, version, s)
			}
		}
		wantError(t, framed(plainHead(3, 2, 5)), api.ErrEnd)
		wantNothing(t, framed("x"))
	}
}

// R1: great inputs end.
func TestGreatInputs(t *testing.T) {
	for _, with := range []string{"\x00", "\x01", "\x09", "\x6c", "\x7f", "\x80", "\xff", "\x10\x00"} {
		great := strings.Repeat(with, 1<<20/len(with))
		for version := 1; version <= 3; version++ {
			head := plainHead(version, 0, 0)
			wantNothing(t, framed(great))
			wantError(t, joined("\x6c"+great[1:], "\x00"), api.ErrForm)
			wantError(t, joined(head, great, "\x00"), api.ErrForm)
			wantRecovered(t, joined(head, great), api.Segment{}, len(framed(head)))
			wantError(t, joined(head, great), api.ErrEnd)
		}
		Decode([]byte(great + great))
		Recover([]byte(great + great))
	}
	for version := 1; version <= 2; version++ {
		many := plainBlock(version, row(0, 50000))
		wantError(t, joined(plainHead(version, 0, 0), many, "\x00"), api.ErrForm)
	}
	for version := 1; version <= 3; version++ {
		wantNoBody(t, version, row(0, 1<<18), api.ErrArg)
		empty := strings.Repeat(framed(""), 1<<18)
		wantError(t, framed(plainHead(version, 0, 0))+empty, api.ErrForm)
	}
}
