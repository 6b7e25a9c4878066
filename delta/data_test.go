package delta

import (
	"slices"
	"strings"
	"testing"

	"ferryman/api"
)

// short is the beginning of long bytes, for what a test tells.
func short(b string) string { return b[:min(len(b), 80)] }

// wantDelta asks of Decode that delta.
func wantDelta(t *testing.T, b string, want api.Delta) {
	t.Helper()
	if d, err := Decode([]byte(b)); err != api.OK || !same(d, want) {
		t.Errorf("Decode(%x) = %v, error %d, want %v", short(b), d, err, want)
	}
}

// wantError asks of Decode that error, and nothing else (R4).
func wantError(t *testing.T, b string, want api.Errno) {
	t.Helper()
	if d, err := Decode([]byte(b)); err != want || !isZero(d) {
		t.Errorf("Decode(%x) = %v, error %d, want error %d", short(b), d, err, want)
	}
}

// wantEncoded asks of Encode the chapter's bytes, and of Decode the delta again.
func wantEncoded(t *testing.T, d api.Delta) {
	t.Helper()
	want := plainEncode(d)
	if b, err := Encode(d); err != api.OK || string(b) != want {
		t.Errorf("Encode(%v) = %x, error %d, want %x", d, b, err, want)
	}
	wantDelta(t, want, d)
}

// wantRefused asks of Encode ErrArg and nothing.
func wantRefused(t *testing.T, d api.Delta) {
	t.Helper()
	if b, err := Encode(d); err != api.ErrArg || len(b) != 0 {
		t.Errorf("Encode(%v) = %x, error %d, want ErrArg", d, b, err)
	}
}

// P10.3, P10.4: bytes worked out by hand, the sums too.
func TestBytesByHand(t *testing.T) {
	for _, c := range []struct {
		d api.Delta
		b string
	}{
		{api.Delta{}, "\x07\x00\x00\x00\x00\x00\x00\x00\x8e\xb7\x71\x76"},
		{api.Delta{From: 5, To: 7, Mid: []int{2, 3, 4}}, "\x0a\x05\x07\x00\x00\x03\x04\x06\x08\x00\x00\xa2\xd3\x56\x2a"},
		{api.Delta{From: 1, To: 2, Ahead: 2, Mid: []int{9}}, "\x08\x01\x02\x02\x00\x01\x12\x00\x00\x7f\x9b\xa8\xa3"},
		{
			api.Delta{From: 5, To: 9, Ahead: 1, Behind: 1, Mid: []int{9}, Table: []api.Entry{{Proc: 1, Seq: 2}, {Proc: 3, Seq: 1}}},
			"\x0e\x05\x09\x01\x01\x01\x12\x00\x02\x01\x02\x00\x03\x01\x00\xd0\x80\x8a\xc4",
		},
		{some(), "\x13\xac\x02\x80\x01\x03\x04\x02\x01\xd8\x04\x03\x02\x00\x05\x0e\x40\xac\x02\x01\x6b\x2e\xf8\x01"},
	} {
		if b, err := Encode(c.d); err != api.OK || string(b) != c.b {
			t.Errorf("Encode(%v) = %x, error %d, want %x", c.d, b, err, c.b)
		}
		wantDelta(t, c.b, c.d)
	}
}

// P10.3, P10.4, P10.5, P2: what was encoded is decoded as it was, and encoded as the same bytes again.
func TestWhatWasEncodedIsDecoded(t *testing.T) {
	for _, d := range goodDeltas() {
		if !plainMay(d) {
			t.Fatalf("%v may not be", d)
		}
		wantEncoded(t, d)
		b, _ := Encode(d)
		again, _ := Decode(b)
		if c, err := Encode(again); err != api.OK || string(c) != string(b) || !Same(again, d) {
			t.Errorf("what was decoded of %x is encoded as %x, error %d", b, c, err)
		}
	}
}

// P10.3: deltas that may not be, by one of their parts.
func TestDeltasThatMayNotBe(t *testing.T) {
	for _, d := range slices.Concat(toldDeltas(), untoldDeltas()) {
		if plainMay(d) {
			t.Fatalf("%v may be", d)
		}
		wantRefused(t, d)
	}
}

// P10.3: each bound, by its words.
func TestTheBoundsOfADelta(t *testing.T) {
	may := func(want bool, change func(d *api.Delta)) {
		t.Helper()
		d := some()
		change(&d)
		if b, err := Encode(d); (err == api.OK) != want || (len(b) > 0) != want {
			t.Errorf("Encode(%v) = %x, error %d", d, b, err)
		}
	}
	for n, want := range map[int]bool{-1: false, 0: true, 1<<62 - 1: true, 1 << 62: false} {
		may(want, func(d *api.Delta) { d.From = n })
		may(want, func(d *api.Delta) { d.To = n })
		may(want, func(d *api.Delta) { d.Ahead = n })
		may(want, func(d *api.Delta) { d.Behind = n })
		may(want, func(d *api.Delta) { d.Table[1].Seq = n })
	}
	for count, want := range map[int]bool{0: true, 1: true, 128: true, 129: false} {
		may(want, func(d *api.Delta) { d.Mid = make([]int, count) })
	}
	for n, want := range map[int]bool{-1<<40 - 1: false, -1 << 40: true, 1 << 40: true, 1<<40 + 1: false} {
		may(want, func(d *api.Delta) { d.Mid[0] = n })
		may(want, func(d *api.Delta) { d.Mid[1] = n })
	}
	for engine, want := range map[int]bool{-1: false, 0: true, 1: true, 2: true, 3: false} {
		may(want, func(d *api.Delta) { d.Engine = engine })
		may(engine == 0, func(d *api.Delta) { d.Sealed, d.Engine = false, engine })
	}
	for proc, want := range map[int]bool{-1: false, 0: false, 1: true, 64: true, 65: false} {
		may(want, func(d *api.Delta) { d.Table[1].Proc = proc }) // behind 0
	}
	for resp, want := range map[int]bool{-1<<50 - 1: false, -1 << 50: true, 1 << 50: true, 1<<50 + 1: false} {
		may(want, func(d *api.Delta) { d.Table[0].Resp = resp })
	}
}

// P10.4: no bytes, and what is no frame.
func TestDecodeOfWhatIsNoFrame(t *testing.T) {
	if d, err := Decode(nil); err != api.ErrMore || !isZero(d) {
		t.Error(d, err)
	}
	for b, want := range map[string]api.Errno{
		"": api.ErrMore, "\x80": api.ErrMore, "\x05abc": api.ErrMore, put(1 << 20): api.ErrMore, "\x80\x00": api.ErrForm, strings.Repeat("\xff", 10): api.ErrForm,
		put(1<<20 + 1): api.ErrTooLarge, put(topNumber): api.ErrTooLarge, "\x00\x00\x00\x00\x00": api.ErrSum, "\x07" + strings.Repeat("\x00", 11): api.ErrSum,
	} {
		wantError(t, b, want)
	}
	for _, d := range goodDeltas() {
		whole := plainEncode(d)
		for i := range 4 {
			b := []byte(whole)
			b[len(b)-1-i] ^= 1
			wantError(t, string(b), api.ErrSum)
			wantError(t, string(b)+"\x00", api.ErrSum)
		}
	}
}

// P10.4: a frame with something behind it, whatever its data are.
func TestDecodeOfAFrameWithSomethingBehindIt(t *testing.T) {
	for _, whole := range []string{plainEncode(some()), plainEncode(api.Delta{}), framed(""), framed("no delta"), plainEncode(toldDeltas()[0])} {
		for _, behind := range []string{"\x00", "\x80", "x", framed(""), framed("x"), whole, whole[:len(whole)-1], strings.Repeat("\xff", 1000)} {
			wantError(t, whole+behind, api.ErrEnd)
		}
	}
}

// wrongData tell no delta, though they begin as some do.
func wrongData() []string {
	d := some()
	head, mid, seal, table, whole := put(1)+put(2)+put(3)+put(4), plainMid(d.Mid), plainSeal(d), plainTable(d.Table), plainData(d)
	wrong := []string{
		whole + "\x00", whole + "\x80", whole + "\x01\x01\x01", whole + whole, "\x00" + whole, head + mid + table, head + seal + table, mid + seal + table,
		head + put(129) + strings.Repeat("\x00", 129) + seal + table, head + put(topNumber) + mid[1:] + seal + table, head + put(256) + strings.Repeat("\x00", 256) + "\x00\x00",
		head + put(1) + mid[1:] + seal + table, head + put(3) + mid[1:] + table, head + put(128) + strings.Repeat("\x00", 128), head + put(128) + strings.Repeat("\x00", 127) + "\x00\x00",
		head + mid + put(4) + table, head + mid + put(5) + table, head + mid + put(topNumber) + table, head + mid + put(4) + put(0), head + mid + "\x80\x00" + table,
		head + mid + seal + put(1) + table[1:], head + mid + seal + put(3) + table[1:], head + mid + seal + put(0) + table[1:], head + mid + seal + put(topNumber) + table[1:], head + mid + seal + "\x82\x00" + table[1:],
		head + mid + seal + put(1), head + mid + seal + put(1) + put(5), head + mid + seal + put(1) + put(5) + put(5), head + mid + seal + put(1) + put(5) + put(5) + "\x80",
		head + mid + seal + put(100) + strings.Repeat("\x01", 299), head + mid + seal + put(1<<20), head + mid + seal,
	}
	for cut := range len(whole) {
		wrong = append(wrong, whole[:cut])
	}
	for _, none := range noGets() {
		for i := range 4 {
			wrong = append(wrong, head[:i]+none+head[i+1:]+mid+seal+table, head[:i]+none)
		}
		wrong = append(wrong, head+none+mid[1:]+seal+table, head+none+seal+table, head+mid+none+table, head+mid+seal+none, head+mid+seal+none+table[1:], head+put(0)+none+table)
		wrong = append(wrong, head+mid+seal+put(1)+none+put(1)+put(1), head+mid+seal+put(1)+put(1)+none+put(1))
	}
	for _, none := range noNumbers() {
		wrong = append(wrong, head+put(1)+none+seal+table, head+put(2)+put(1)+none+seal+table, head+put(2)+none+put(1)+seal+table)
		wrong = append(wrong, head+mid+seal+put(1)+put(1)+put(1)+none, head+mid+seal+put(2)+put(1)+put(1)+put(1)+put(2)+put(1)+none)
	}
	return wrong
}

// P10.4: data that lack a number, that have one too many, that tell too many, or a seal that there is not.
func TestDecodeOfWrongData(t *testing.T) {
	for _, data := range wrongData() {
		wantError(t, framed(data), api.ErrForm)
	}
	for _, d := range slices.Concat(goodDeltas(), toldDeltas()) {
		data := plainData(d)
		for _, other := range []string{data[:len(data)-1], data + "\x00", data + "\x80", data + "\x01\x01\x01"} {
			wantError(t, framed(other), api.ErrForm)
		}
	}
	for seal, want := range []api.Delta{{}, {Sealed: true}, {Sealed: true, Engine: 1}, {Sealed: true, Engine: 2}} {
		wantDelta(t, framed("\x00\x00\x00\x00\x00"+put(seal)+"\x00"), want)
	}
	wantError(t, framed("\x00\x00\x00\x00\x00"+put(4)+"\x00"), api.ErrForm)
	zeros := strings.Repeat("\x00", 130)
	wantDelta(t, framed("\x00\x00\x00\x00"+put(128)+zeros), api.Delta{Mid: make([]int, 128)})
	wantError(t, framed("\x00\x00\x00\x00"+put(129)+zeros+"\x00"), api.ErrForm)
}

// P10.4: data that tell a delta that may not be.
func TestDecodeOfDeltasThatMayNotBe(t *testing.T) {
	for _, d := range toldDeltas() {
		wantError(t, plainEncode(d), api.ErrArg)
	}
}

// P10.4, R2: where more than one error fits, the one that is named first.
func TestTheOrderOfDecodesErrors(t *testing.T) {
	wrong := plainData(api.Delta{Mid: []int{topValue + 1}})
	broken := func(data string) string {
		b := []byte(framed(data))
		b[len(b)-1] ^= 1
		return string(b)
	}
	for _, c := range []struct {
		b    string
		want api.Errno
	}{
		{broken("no delta"), api.ErrSum},
		{broken(wrong), api.ErrSum},
		{broken(wrong) + "x", api.ErrSum},
		{framed("no delta") + "x", api.ErrEnd},
		{framed(wrong) + "x", api.ErrEnd},
		{framed(wrong + "x"), api.ErrForm},
		{framed(wrong[:len(wrong)-1]), api.ErrForm},
		{framed(wrong[:len(wrong)-2] + "\x04\x00"), api.ErrForm},
		{framed(wrong), api.ErrArg},
		{"\x80\x00" + framed(wrong), api.ErrForm},
		{put(1<<20+1) + framed(wrong), api.ErrTooLarge},
	} {
		wantError(t, c.b, c.want)
	}
}

// P10.4, P2, P3: bytes cut at every place, and with any bit turned.
func TestCutAndTurnedBytes(t *testing.T) {
	for _, d := range []api.Delta{{}, some(), {Mid: make([]int, 128)}, {Mid: []int{-topValue}, Table: tableOf(65)}} {
		whole := plainEncode(d)
		for end := range len(whole) {
			wantError(t, whole[:end], api.ErrMore)
			for bit := range 8 {
				b := []byte(whole)
				b[end] ^= 1 << bit
				if got, err := Decode(b); err == api.OK || !isZero(got) {
					t.Errorf("Decode takes bytes whose bit %d of byte %d was turned", bit, end)
				}
			}
		}
		wantDelta(t, whole, d)
	}
}

// P10.4, P10.5: bytes of all sorts, by the chapter's words; what is decoded is encoded as the same bytes.
func TestBytesByTheChaptersWords(t *testing.T) {
	told := map[api.Errno]int{}
	spoiled(func(b string) {
		want, err := plainDecode(b)
		told[err]++
		if err != api.OK {
			wantError(t, b, err)
			return
		}
		wantDelta(t, b, want)
		d, _ := Decode([]byte(b))
		if again, err := Encode(d); err != api.OK || string(again) != b {
			t.Errorf("Decode(%x) is encoded as %x, error %d", b, again, err)
		}
	})
	for _, err := range []api.Errno{api.OK, api.ErrMore, api.ErrForm, api.ErrSum, api.ErrEnd, api.ErrArg} {
		if told[err] < 20 {
			t.Errorf("of error %d there were %d alone", err, told[err])
		}
	}
}

// P10.4: Same, of each part that may be another one.
func TestSame(t *testing.T) {
	all := slices.Concat(goodDeltas(), toldDeltas(), untoldDeltas())
	for _, a := range all {
		if !Same(a, own(a)) {
			t.Errorf("%v is not the same as itself", a)
		}
		for _, b := range all {
			if Same(a, b) != same(a, b) {
				t.Errorf("Same(%v, %v) = %v", a, b, !same(a, b))
			}
		}
	}
	for i, change := range []func(d *api.Delta){
		func(d *api.Delta) { d.From++ },
		func(d *api.Delta) { d.To++ },
		func(d *api.Delta) { d.Ahead++ },
		func(d *api.Delta) { d.Behind++ },
		func(d *api.Delta) { d.From, d.To = d.To, d.From },
		func(d *api.Delta) { d.Ahead, d.Behind = d.Behind, d.Ahead },
		func(d *api.Delta) { d.Mid[0]++ },
		func(d *api.Delta) { d.Mid[1]++ },
		func(d *api.Delta) { d.Mid = d.Mid[:1] },
		func(d *api.Delta) { d.Mid = append(d.Mid, 0) },
		func(d *api.Delta) { d.Mid = nil },
		func(d *api.Delta) { d.Sealed = false },
		func(d *api.Delta) { d.Engine-- },
		func(d *api.Delta) { d.Table[1].Proc-- },
		func(d *api.Delta) { d.Table[0].Seq++ },
		func(d *api.Delta) { d.Table[1].Resp++ },
		func(d *api.Delta) { d.Table = d.Table[:1] },
		func(d *api.Delta) { d.Table = append(d.Table, api.Entry{}) },
		func(d *api.Delta) { d.Table = nil },
		func(d *api.Delta) { d.Table[0], d.Table[1] = d.Table[1], d.Table[0] },
	} {
		d := some()
		change(&d)
		if Same(some(), d) || Same(d, some()) {
			t.Errorf("change %d makes no other delta", i)
		}
	}
	if !Same(api.Delta{}, api.Delta{Mid: []int{}, Table: []api.Entry{}}) {
		t.Error("a list without elements is another one than none")
	}
}

// roomy is d with lists that have room behind their ends, and what stands there.
func roomy(d api.Delta) (lent, room api.Delta) {
	room = own(d)
	room.Mid, room.Table = append(room.Mid, 1, 2), append(room.Table, api.Entry{Proc: 64}, api.Entry{Proc: -1})
	lent = room
	lent.Mid, lent.Table = room.Mid[:len(d.Mid)], room.Table[:len(d.Table)]
	return lent, room
}

// spill writes over all that a delta's lists have room for.
func spill(d api.Delta) {
	mid, table := d.Mid[:cap(d.Mid)], d.Table[:cap(d.Table)]
	for i := range mid {
		mid[i] = -7
	}
	for i := range table {
		table[i] = api.Entry{Proc: -7, Seq: -7, Resp: -7}
	}
}

// R3: what Encode and Same are handed stays as it was, also behind its end, and the bytes are the caller's own.
func TestWhatIsEncodedStaysAsItWas(t *testing.T) {
	for _, d := range slices.Concat(goodDeltas(), toldDeltas(), untoldDeltas()) {
		lent, room := roomy(d)
		was := own(room)
		b, err := Encode(lent)
		Same(lent, lent)
		if !same(room, was) {
			t.Errorf("Encode and Same made %v of %v", room, was)
		}
		if err != api.OK {
			continue
		}
		other, _ := Encode(lent)
		other = other[:cap(other)]
		for i := range other {
			other[i] = 'w'
		}
		spill(room)
		if string(b) != plainEncode(d) {
			t.Errorf("one answer of %v changed another", d)
		}
	}
}

// R3: what Decode reads stays as it was, what stands behind its end is not read, and the lists are the caller's own.
func TestWhatIsDecodedStaysAsItWas(t *testing.T) {
	for _, d := range goodDeltas() {
		whole := plainEncode(d)
		room := []byte(whole + framed("x"))
		lent := room[:len(whole)]
		got, err := Decode(lent)
		if err != api.OK || string(room) != whole+framed("x") {
			t.Errorf("Decode made %x of %x, error %d", room, whole, err)
		}
		other, _ := Decode(lent)
		spill(other)
		clear(room)
		if !same(got, d) {
			t.Errorf("one answer of %v changed another", d)
		}
	}
}

// R5: what is answered hangs on nothing that was asked before.
func TestNothingIsKept(t *testing.T) {
	for range 3 {
		for _, d := range []api.Delta{some(), {}, {Mid: make([]int, 128), Table: tableOf(65)}, leave()} {
			wantEncoded(t, d)
			wantError(t, framed("x"), api.ErrForm)
			wantRefused(t, api.Delta{From: -1})
		}
	}
}

// R1: great inputs end.
func TestGreatBytes(t *testing.T) {
	for _, with := range []string{"\x00", "\x01", "\x40", "\x7f", "\x80", "\xff", "\x01\x00"} {
		great := strings.Repeat(with, 1<<19/len(with))
		wantError(t, framed(great), api.ErrForm)
		Decode([]byte(great + great))
	}
	wantError(t, framed("\x00\x00\x00\x00\x00\x00"+put(1<<17)+strings.Repeat("\x01", 3<<17)), api.ErrArg)
	wantError(t, framed("\x00\x00\x00\x00\x00\x00"+put(topNumber)+strings.Repeat("\x01", 3<<17)), api.ErrForm)
	wantRefused(t, api.Delta{Mid: make([]int, 1<<20)})
	wantRefused(t, api.Delta{Table: make([]api.Entry, 1<<20)})
	if !Same(api.Delta{Mid: make([]int, 1<<20), Table: make([]api.Entry, 1<<20)}, api.Delta{Mid: make([]int, 1<<20), Table: make([]api.Entry, 1<<20)}) {
		t.Error("great deltas are not the same")
	}
}
