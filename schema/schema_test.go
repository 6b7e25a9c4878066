package schema

import (
	"math"
	"slices"
	"strings"
	"testing"

	"ferryman/api"
)

// wantRecord asks of Decode that record.
func wantRecord(t *testing.T, b string, want api.Record) {
	t.Helper()
	if r, err := Decode([]byte(b)); err != api.OK || r != want {
		t.Errorf("Decode(%x) = %v, error %d, want %v", b, r, err, want)
	}
}

// wantError asks of Decode that error, and the zero Record (R4).
func wantError(t *testing.T, b string, want api.Errno) {
	t.Helper()
	if r, err := Decode([]byte(b)); err != want || r != (api.Record{}) {
		t.Errorf("Decode(%x) = %v, error %d, want error %d", b, r, err, want)
	}
}

// wantNoBytes asks of Encode that error, and nothing.
func wantNoBytes(t *testing.T, version int, r api.Record, want api.Errno) {
	t.Helper()
	if b, err := Encode(version, r); err != want || len(b) != 0 {
		t.Errorf("Encode(%d, %v) = %x, error %d, want error %d", version, r, b, err, want)
	}
}

// wrongVersions there are not.
func wrongVersions() []int {
	return []int{math.MinInt, -1 << 32, -3, -1, 0, 4, 5, 127, 128, 256, 257, 1 << 32, 1<<32 + 1, topNumber, 1 << 62, math.MaxInt}
}

// P6.2, P6.3: the chapter's example, and bytes worked out by hand.
func TestExamples(t *testing.T) {
	few := api.Record{Index: 5, Proc: 2, Seq: 7, Op: api.Op{Code: api.Add, A: 3}, Resp: -1}
	great := api.Record{Index: 300, Proc: 64, Seq: topNumber, Op: api.Op{Code: api.Put, A: -3, B: 300}, Resp: -topResp}
	for _, c := range []struct {
		version int
		r       api.Record
		want    string
		read    api.Record
	}{
		{1, api.Record{Index: 5, Proc: 2}, "\x01\x01\x05\x02\x02\x04\x00\x00\x00", api.Record{Index: 5, Proc: 2}},
		{1, few, "\x01\x01\x05\x02\x02\x04\x01\x06\x00", api.Record{Index: 5, Proc: 2, Op: few.Op}},
		{2, few, "\x02\x01\x05\x02\x02\x03\x07\x04\x01\x06\x00", api.Record{Index: 5, Proc: 2, Seq: 7, Op: few.Op}},
		{3, few, "\x03\x01\x05\x02\x02\x03\x07\x04\x01\x06\x00\x05\x01", few},
		{3, api.Record{}, "\x03\x01\x00\x02\x00\x03\x00\x04\x00\x00\x00\x05\x00", api.Record{}},
		{1, great, "\x01\x01\xac\x02\x02\x40\x04\x05\x05\xd8\x04", api.Record{Index: 300, Proc: 64, Op: great.Op}},
		{3, great, "\x03\x01\xac\x02\x02\x40\x03\xff\xff\xff\xff\xff\xff\xff\xff\x3f\x04\x05\x05\xd8\x04\x05\xff\xff\xff\xff\xff\xff\xff\x03", great},
	} {
		if b, err := Encode(c.version, c.r); err != api.OK || string(b) != c.want {
			t.Errorf("Encode(%d, %v) = %x, error %d, want %x", c.version, c.r, b, err, c.want)
		}
		wantRecord(t, c.want, c.read)
	}
}

// P6.1: each number one by one, at its bounds and beyond.
func TestFits(t *testing.T) {
	for _, r := range goodRecords() {
		if !Fits(r) {
			t.Errorf("%v does not fit", r)
		}
	}
	told, untold := wrongRecords()
	for _, r := range append(told, untold...) {
		if Fits(r) {
			t.Errorf("%v fits", r)
		}
	}
	for _, r := range []api.Record{
		{Index: -1}, {Index: 1 << 62}, {Proc: -1}, {Proc: 65}, {Seq: -1}, {Seq: 1 << 62},
		{Op: api.Op{Code: -1}}, {Op: api.Op{Code: 11}}, {Op: api.Op{A: 1<<40 + 1}}, {Op: api.Op{B: -1<<40 - 1}}, {Resp: -1<<50 - 1}, {Resp: 1<<50 + 1},
	} {
		if Fits(r) {
			t.Errorf("%v fits", r)
		}
	}
	for _, r := range []api.Record{{Index: 1<<62 - 1}, {Proc: 64}, {Seq: 1<<62 - 1}, {Op: api.Op{Code: 10, A: 1 << 40, B: -1 << 40}}, {Resp: -1 << 50}, {Resp: 1 << 50}} {
		if !Fits(r) {
			t.Errorf("%v does not fit", r)
		}
	}
}

// P6.1: each version leaves what it has, also of a record that does not fit.
func TestUpgrade(t *testing.T) {
	told, untold := wrongRecords()
	for _, r := range slices.Concat(goodRecords(), told, untold) {
		for version := 1; version <= 3; version++ {
			if u, err := Upgrade(version, r); err != api.OK || u != plainUpgrade(version, r) {
				t.Errorf("Upgrade(%d, %v) = %v, error %d", version, r, u, err)
			}
		}
		for _, version := range wrongVersions() {
			if u, err := Upgrade(version, r); err != api.ErrVersion || u != (api.Record{}) {
				t.Errorf("Upgrade(%d, %v) = %v, error %d", version, r, u, err)
			}
		}
	}
}

// P6.2, P6.4: what was encoded is decoded as its Upgrade, and, upgraded, encoded as the same bytes.
func TestWhatWasEncodedIsDecoded(t *testing.T) {
	for _, r := range goodRecords() {
		for version := 1; version <= 3; version++ {
			b, err := Encode(version, r)
			if err != api.OK || string(b) != plainEncode(version, r) {
				t.Errorf("Encode(%d, %v) = %x, error %d", version, r, b, err)
			}
			u, _ := Upgrade(version, r)
			wantRecord(t, string(b), u)
			if again, err := Encode(version, u); err != api.OK || string(again) != string(b) {
				t.Errorf("Encode(%d, %v) = %x, error %d, want %x", version, u, again, err, b)
			}
		}
	}
}

// P6.2: a record that does not fit, also by a field that the version does not have; a version that there is not is told first (R2).
func TestEncodeErrors(t *testing.T) {
	told, untold := wrongRecords()
	for _, r := range append(told, untold...) {
		for version := 1; version <= 3; version++ {
			wantNoBytes(t, version, r, api.ErrArg)
		}
	}
	for _, r := range slices.Concat(goodRecords(), told, untold) {
		for _, version := range wrongVersions() {
			wantNoBytes(t, version, r, api.ErrVersion)
		}
	}
}

// P6.3: no bytes, no number, and no version, whatever stands behind.
func TestDecodeBeginning(t *testing.T) {
	wantError(t, "", api.ErrMore)
	if r, err := Decode(nil); err != api.ErrMore || r != (api.Record{}) {
		t.Error(r, err)
	}
	behinds := []string{"", "\x01", "\x80", "\x06\x00", "\x02\x02\x01\x05", plainEncode(3, some()), plainEncode(1, some())[1:]}
	for _, behind := range behinds {
		for _, none := range noNumbers() {
			wantError(t, none+behind, api.ErrForm)
		}
		for _, version := range wrongVersions() {
			if version >= 0 && version <= topNumber {
				wantError(t, put(version)+behind, api.ErrVersion)
			}
		}
	}
	for _, none := range []string{"\x80", "\xff", "\x83\x80", strings.Repeat("\xff", 9)} {
		wantError(t, none, api.ErrForm)
	}
	wantError(t, "\x83\x00"+plainEncode(3, some())[1:], api.ErrForm) // a version with a needless group
}

// P6.3: a field that comes twice, and fields that fall.
func TestDecodeOrderOfFields(t *testing.T) {
	for version := 1; version <= 3; version++ {
		fields := plainFields(version)
		for _, first := range fields {
			for _, second := range fields {
				if first >= second {
					wantError(t, put(version)+plainField(first, some())+plainField(second, some()), api.ErrForm)
					wantError(t, plainEncode(version, some())+plainField(second, some()), api.ErrForm)
				}
			}
			// Once it is not greater, nobody asks what it is, nor whether its value is there.
			for _, behind := range []string{"\x00", "\x00\x00", put(first), put(first) + "\x80\x00"} {
				wantError(t, put(version)+plainField(first, some())+behind, api.ErrForm)
			}
		}
	}
	for _, version := range []int{1, 2} {
		whole := plainEncode(version, some())
		wantError(t, whole+"\x10\x00\x10\x00", api.ErrForm)
		wantError(t, whole+"\x80\x01\x00\x10\x00", api.ErrForm)
		wantError(t, whole+"\x11\x01a\x10\x01a", api.ErrForm)
		wantError(t, whole+"\x10\x00\x05\x00", api.ErrForm)
		wantError(t, put(version)+"\x10\x00"+whole[1:], api.ErrForm)
	}
}

// P6.3: there is no number where a field should be, ahead of each field and behind the last one.
func TestDecodeNoFieldNumber(t *testing.T) {
	for version := 1; version <= 3; version++ {
		ahead := put(version)
		for _, field := range append(plainFields(version), 0) {
			for _, none := range append(noNumbers(), "\x80") {
				wantError(t, ahead+none, api.ErrForm)
			}
			if field > 0 {
				ahead += plainField(field, some())
			}
		}
	}
}

// P6.3: each field's value is none: it is cut, has a needless group, is too great, or is an operation that does not fit.
func TestDecodeNoValue(t *testing.T) {
	for version := 1; version <= 3; version++ {
		ahead := put(version)
		for _, field := range plainFields(version) {
			nones := append(noNumbers(), "", "\x80", "\xff\xff")
			switch field {
			case 4:
				nones = append(nones, "\x00", "\x00\x00", "\x00\x00\x80", "\x0b\x00\x00", "\x00\x00\x82\x80\x80\x80\x80\x40", "\x00\x81\x80\x80\x80\x80\x40\x00")
			case 5:
				nones = []string{"", "\x80", "\x80\x00", strings.Repeat("\x80", 9) + "\x02", strings.Repeat("\xff", 11)}
			}
			for _, none := range nones {
				wantError(t, ahead+put(field)+none, api.ErrForm)
			}
			ahead += plainField(field, some())
		}
		wantRecord(t, ahead, plainUpgrade(version, some()))
	}
	wantError(t, plainEncode(2, some())+"\x05"+strings.Repeat("\x80", 9)+"\x02", api.ErrField)
}

// P6.3: fields that the version does not have, at each place among its own: of a later version, and 0, and 6 to 15; what they have does not count.
func TestDecodeFieldsThatThereAreNot(t *testing.T) {
	for version := 1; version <= 3; version++ {
		fields := plainFields(version)
		for field := range 16 {
			if slices.Contains(fields, field) {
				continue
			}
			ahead := put(version)
			for _, own := range fields {
				if own < field {
					ahead += plainField(own, some())
				}
			}
			for _, value := range []string{"", "\x00", "\x01a", "\x80\x00", "\x00\x00\x00"} {
				wantError(t, ahead+put(field)+value, api.ErrField)
				wantError(t, put(version)+put(field)+value, api.ErrField)
			}
		}
	}
	wantError(t, "\x01\x01\x05\x02\x02\x03\x07\x04\x00\x00\x00", api.ErrField)
	wantError(t, "\x02\x01\x05\x02\x02\x03\x07\x04\x00\x00\x00\x05\x00", api.ErrField)
	wantError(t, "\x03\x00\x00\x01\x05\x02\x02\x03\x07\x04\x00\x00\x00\x05\x00", api.ErrField)
}

// P6.3: fields of 16 or more, with their bytes there, are passed over in versions 1 and 2; version 3 has none.
func TestDecodeFieldsToPassOver(t *testing.T) {
	contents := []string{"", "a", "\x80", "\x00\x00", "\x01\x05\x02\x02", strings.Repeat("z", 127), strings.Repeat("\xff", 128), strings.Repeat("z", 20000)}
	for _, field := range []int{16, 17, 127, 128, 1 << 32, topNumber} {
		for _, content := range contents {
			passed := put(field) + put(len(content)) + content
			for version := 1; version <= 2; version++ {
				whole := plainEncode(version, some())
				wantRecord(t, whole+passed, plainUpgrade(version, some()))
				wantError(t, put(version)+passed, api.ErrField) // all of the version's own lack
				wantError(t, whole+passed+"\x80", api.ErrForm)
				if field < topNumber {
					wantRecord(t, whole+passed+put(topNumber)+"\x01x", plainUpgrade(version, some()))
				}
			}
			wantError(t, plainEncode(3, some())+passed, api.ErrField)
			wantError(t, "\x03"+passed, api.ErrField)
		}
	}
	wantRecord(t, plainEncode(1, some())+"\x10\x00\x11\x01a\x12\x02ab", plainUpgrade(1, some()))
}

// P6.3: they are told as ErrForm, if their bytes are not there; in version 3 nobody looks for these.
func TestDecodeFieldsToPassOverThatLack(t *testing.T) {
	tails := []string{"", "\x01", "\x02a", "\x80", "\x80\x00", "\x80\x01" + strings.Repeat("z", 127)}
	for _, length := range []int{1 << 31, 1 << 32, 1<<32 + 1, 1 << 40, topNumber - 1, topNumber} {
		tails = append(tails, put(length), put(length)+"abc")
	}
	for _, tail := range append(tails, noNumbers()...) {
		for _, field := range []int{17, 128, topNumber} {
			for version := 1; version <= 2; version++ {
				wantError(t, plainEncode(version, some())+put(field)+tail, api.ErrForm)
				wantError(t, put(version)+"\x10"+tail, api.ErrForm)
				wantError(t, plainEncode(version, some())+"\x10\x01a"+put(field)+tail, api.ErrForm)
			}
			wantError(t, plainEncode(3, some())+put(field)+tail, api.ErrField)
		}
	}
}

// P6.3: of each version any choice of its fields, but for all of them.
func TestDecodeFieldsThatLack(t *testing.T) {
	for version := 1; version <= 3; version++ {
		fields := plainFields(version)
		all := 1<<len(fields) - 1
		for choice := range all + 1 {
			b := put(version)
			for i, field := range fields {
				if choice>>i%2 == 1 {
					b += plainField(field, some())
				}
			}
			if choice == all {
				wantRecord(t, b, plainUpgrade(version, some()))
			} else {
				wantError(t, b, api.ErrField)
			}
		}
	}
}

// P6.3: what does not fit, but can be told, is ErrArg by a field that the version has; what else is wrong is told ahead of it (R2).
func TestDecodeOfWhatDoesNotFit(t *testing.T) {
	told, _ := wrongRecords()
	for _, r := range told {
		for version := 1; version <= 3; version++ {
			b := plainEncode(version, r)
			u := plainUpgrade(version, r)
			if plainFits(u) {
				wantRecord(t, b, u)
				continue
			}
			wantError(t, b, api.ErrArg)
			wantError(t, b+"\x80", api.ErrForm)
			wantError(t, b+"\x06", api.ErrField)
			wantError(t, put(version)+plainField(2, r)+plainField(4, r), api.ErrField)
		}
	}
	wantError(t, "\x01\x01\x05\x02\x41\x04\x00\x00\x00\x10\x01a", api.ErrArg)
}

// R2: of two errors the one that comes first.
func TestDecodeFirstError(t *testing.T) {
	for _, c := range []struct {
		b    string
		want api.Errno
	}{
		{"\x00\x80", api.ErrVersion},
		{"\x04\x06", api.ErrVersion},
		{"\x01\x06\x00\x80", api.ErrField},
		{"\x01\x80\x00\x06", api.ErrForm},
		{"\x01\x03\x80\x00", api.ErrField},         // it is none of the version's, and its value is none
		{"\x01\x02\x02\x01\x05\x06", api.ErrForm},  // falling, ahead of one that there is not
		{"\x01\x02\x02\x06\x01\x05", api.ErrField}, // and behind it
		{"\x01\x04\x00\x00\x00\x03\x00", api.ErrForm},
		{"\x01\x02\x41\x06\x00", api.ErrField},
		{"\x01\x02\x41", api.ErrField}, // a field lacks, and the record would not fit
		{"\x02\x10\x05\x06\x00", api.ErrForm},
		{"\x03\x10\x05\x06\x00", api.ErrField},
	} {
		wantError(t, c.b, c.want)
	}
}

// P6.4: what is cut off at any place is refused: ErrMore of nothing, ErrField between two fields, ErrForm within one.
func TestDecodeOfCutBytes(t *testing.T) {
	for _, r := range goodRecords() {
		for version := 1; version <= 3; version++ {
			whole := plainEncode(version, r)
			between := map[int]api.Errno{0: api.ErrMore, 1: api.ErrField}
			at := 1
			for _, field := range plainFields(version) {
				at += len(plainField(field, r))
				between[at] = api.ErrField
			}
			for at := range len(whole) {
				want, there := between[at]
				if !there {
					want = api.ErrForm
				}
				wantError(t, whole[:at], want)
			}
		}
	}
}

// P6.4: what has one byte more behind it, whichever, is refused.
func TestDecodeWithOneByteBehind(t *testing.T) {
	for _, r := range goodRecords() {
		for version := 1; version <= 3; version++ {
			last := plainFields(version)[len(plainFields(version))-1]
			for c := range 256 {
				want := api.ErrForm
				if c > last && c < 16 || c > last && c < 128 && version == 3 {
					want = api.ErrField
				}
				wantError(t, plainEncode(version, r)+string([]byte{byte(c)}), want)
			}
		}
	}
}

// P6.3, P6.4: bytes of all sorts, by the chapter's words; what version 3 has is encoded as the same bytes.
func TestDecodeByItsWords(t *testing.T) {
	counts := map[api.Errno]int{}
	check := func(b string) {
		want, wantErr := plainDecode(b)
		r, err := Decode([]byte(b))
		if err != wantErr || r != want {
			t.Errorf("Decode(%x) = %v, error %d, want %v, error %d", b, r, err, want, wantErr)
		}
		counts[err]++
		if err != api.OK || b[0] != 3 {
			return
		}
		if again, err := Encode(3, r); err != api.OK || string(again) != b {
			t.Errorf("Decode(%x) is encoded as %x, error %d", b, again, err)
		}
	}
	laid(4, check)
	spoiled(check)
	for _, err := range []api.Errno{api.OK, api.ErrArg, api.ErrForm, api.ErrVersion, api.ErrField} {
		if counts[err] < 10 {
			t.Errorf("error %d was told %d times", err, counts[err])
		}
	}
}

// R3: what Encode answers is the caller's own: nothing that is written over it, or behind its end, is seen in a later answer.
func TestWhatIsEncodedIsTheCallersOwn(t *testing.T) {
	for _, r := range goodRecords() {
		for version := 1; version <= 3; version++ {
			first, _ := Encode(version, r)
			second, _ := Encode(version, r)
			second = second[:cap(second)]
			for i := range second {
				second[i] = 'w'
			}
			third, _ := Encode(version, r)
			if want := plainEncode(version, r); string(first) != want || string(third) != want {
				t.Errorf("Encode(%d, %v): one answer changed another", version, r)
			}
		}
	}
}

// R3: what Decode reads stays as it was, and what stands behind its end is not read.
func TestWhatIsDecodedStaysAsItWas(t *testing.T) {
	for _, behind := range []string{"\x00\x00\x00", "\x10\x01a", "\x06\x80"} {
		for version := 1; version <= 3; version++ {
			whole := plainEncode(version, some())
			room := []byte(whole + behind)
			for end := range len(room) + 1 {
				r, err := Decode(room[:end])
				want, wantErr := plainDecode(whole[:min(end, len(whole))] + behind[:max(0, end-len(whole))])
				if r != want || err != wantErr {
					t.Errorf("Decode(%x) with %x behind its end: %v, error %d", room[:end], room[end:], r, err)
				}
			}
			if string(room) != whole+behind {
				t.Errorf("Decode made %x of %x", room, whole+behind)
			}
		}
	}
}

// R5: what was asked before changes no answer; above all nothing is struck out of what a version has.
func TestNothingIsKept(t *testing.T) {
	for range 3 {
		for version := 1; version <= 3; version++ {
			whole := plainEncode(version, some())
			wantRecord(t, whole, plainUpgrade(version, some()))
			wantError(t, whole[:3], api.ErrField)
			if b, err := Encode(version, some()); err != api.OK || string(b) != whole {
				t.Errorf("Encode(%d, %v) = %x, error %d", version, some(), b, err)
			}
			if u, err := Upgrade(version, some()); err != api.OK || u != plainUpgrade(version, some()) {
				t.Errorf("Upgrade(%d, %v) = %v, error %d", version, some(), u, err)
			}
		}
	}
}

// R1: great inputs end.
func TestGreatInputs(t *testing.T) {
	whole := plainEncode(1, some())
	var many strings.Builder
	for field := range 1 << 20 {
		many.WriteString(put(16+field) + "\x01a")
	}
	wantRecord(t, whole+many.String(), plainUpgrade(1, some()))
	wantRecord(t, whole+"\x10"+put(1<<24)+strings.Repeat("\x80", 1<<24), plainUpgrade(1, some()))
	for _, with := range []string{"\x00", "\x01", "\x02", "\x03", "\x10", "\x7f", "\x80", "\xff"} {
		great := strings.Repeat(with, 1<<22)
		for _, ahead := range []string{"", "\x01", "\x02\x01", "\x03", plainEncode(2, some()), plainEncode(3, some())} {
			_, want := plainDecode(ahead + great)
			wantError(t, ahead+great, want)
		}
	}
}
