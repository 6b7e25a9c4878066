package snapshot

import (
	"slices"
	"strings"
	"testing"

	"ferryman/api"
	"ferryman/objs"
)

// short is the beginning of long bytes, for what a test tells.
func short(b string) string { return b[:min(len(b), 80)] }

// wantSnapshot asks of Decode that snapshot.
func wantSnapshot(t *testing.T, b string, want api.Snapshot) {
	t.Helper()
	if s, err := Decode([]byte(b)); err != api.OK || !same(s, want) {
		t.Errorf("Decode(%x) = %v, error %d, want %v", short(b), s, err, want)
	}
}

// wantError asks of Decode that error, and nothing else (R4).
func wantError(t *testing.T, b string, want api.Errno) {
	t.Helper()
	if s, err := Decode([]byte(b)); err != want || !isZero(s) {
		t.Errorf("Decode(%x) = %v, error %d, want error %d", short(b), s, err, want)
	}
}

// wantEncoded asks of May true, of Encode the chapter's bytes, and of Decode the snapshot again.
func wantEncoded(t *testing.T, s api.Snapshot) {
	t.Helper()
	want := plainEncode(s)
	if !May(s) {
		t.Errorf("May(%v) = false", s)
	}
	if b, err := Encode(s); err != api.OK || string(b) != want {
		t.Errorf("Encode(%v) = %x, error %d, want %x", s, b, err, want)
	}
	wantSnapshot(t, want, s)
}

// wantRefused asks of May false, and of Encode ErrArg and nothing.
func wantRefused(t *testing.T, s api.Snapshot) {
	t.Helper()
	if May(s) {
		t.Errorf("May(%v) = true", s)
	}
	if b, err := Encode(s); err != api.ErrArg || len(b) != 0 {
		t.Errorf("Encode(%v) = %x, error %d, want ErrArg", s, b, err)
	}
}

// P9.2, P9.3: bytes worked out by hand, the sums too.
func TestBytesByHand(t *testing.T) {
	for _, c := range []struct {
		s api.Snapshot
		b string
	}{
		{
			api.Snapshot{Index: 1, State: api.State{L: []int{5}}, Table: []api.Entry{{Proc: 2, Seq: 1}}},
			"\x08\x73\x03\x01\x09\x82\x75\xd7\xbe\x74\xd3\x2d\x3e" + "\x09\x04\x00\x00\x01\x0a\x01\x02\x01\x00\xe1\x7d\x63\x6b",
		},
		{
			api.Snapshot{State: api.State{L: []int{0}}},
			"\x08\x73\x03\x00\x06\x83\xd9\x9e\x40\x11\x4c\x12\x83" + "\x06\x04\x00\x00\x01\x00\x00\x25\x53\x6c\xd9",
		},
		{
			api.Snapshot{Index: 300, State: some().State, Table: []api.Entry{{Proc: 0, Seq: 5, Resp: 7}, {Proc: 64, Seq: 300, Resp: -1}}},
			"\x09\x73\x03\xac\x02\x11\x00\x22\xba\xeb\x0f\xcc\x6d\x78" +
				"\x11\x08\x04\x03\x04\x04\x01\x12\xd8\x04\x02\x00\x05\x0e\x40\xac\x02\x01\x56\x6c\x8b\x01",
		},
		{
			api.Snapshot{Index: 2, State: api.State{Kind: api.Queue, L: slices.Repeat([]int{1}, 60)}},
			"\x08\x73\x03\x02\x41\x93\x2e\x74\x94\x75\x76\xce\x52" +
				"\x40\x3f\x02\x00\x3c" + strings.Repeat("\x02", 60) + "\x19\xac\x49\xed" + "\x01\x00\xa5\xef\xc3\xe2",
		},
	} {
		if b, err := Encode(c.s); err != api.OK || string(b) != c.b {
			t.Errorf("Encode(%v) = %x, error %d, want %x", c.s, b, err, c.b)
		}
		wantSnapshot(t, c.b, c.s)
	}
}

// P9.1, P9.2, P9.3, P9.6: what was encoded is decoded as it was, and encoded as the same bytes again.
func TestWhatWasEncodedIsDecoded(t *testing.T) {
	for _, s := range goodSnapshots() {
		wantEncoded(t, s)
		b, _ := Encode(s)
		again, _ := Decode(b)
		if c, err := Encode(again); err != api.OK || string(c) != string(b) {
			t.Errorf("what was decoded of %x is encoded as %x, error %d", b, c, err)
		}
	}
}

// P9.1, P9.2: snapshots that may not be, by their index, their state or their table.
func TestSnapshotsThatMayNotBe(t *testing.T) {
	for _, s := range slices.Concat(toldSnapshots(), untoldSnapshots()) {
		if plainMay(s) {
			t.Fatalf("%v may be", s)
		}
		wantRefused(t, s)
	}
	wantRefused(t, api.Snapshot{})
}

// P9.1: each bound, by its words.
func TestTheBoundsOfASnapshot(t *testing.T) {
	may := func(want bool, change func(s *api.Snapshot)) {
		t.Helper()
		s := some()
		change(&s)
		if May(s) != want {
			t.Errorf("May(%v) = %v", s, !want)
		}
	}
	for index, want := range map[int]bool{-1: false, 0: true, 1<<62 - 1: true, 1 << 62: false} {
		may(want, func(s *api.Snapshot) { s.Index = index })
	}
	for proc, want := range map[int]bool{-1: false, 0: true, 64: true, 65: false} {
		may(want, func(s *api.Snapshot) { s.Table = []api.Entry{{Proc: proc}} })
	}
	for seq, want := range map[int]bool{-1: false, 0: true, 1<<62 - 1: true, 1 << 62: false} {
		may(want, func(s *api.Snapshot) { s.Table[1].Seq = seq })
	}
	for resp, want := range map[int]bool{-1<<50 - 1: false, -1 << 50: true, 1 << 50: true, 1<<50 + 1: false} {
		may(want, func(s *api.Snapshot) { s.Table[2].Resp = resp })
	}
	for proc, want := range map[int]bool{-1: false, 0: false, 1: true, 63: true, 64: false, 65: false} {
		may(want, func(s *api.Snapshot) { s.Table[1].Proc = proc }) // between 0 and 64
	}
	may(false, func(s *api.Snapshot) { s.State.Kind = api.Kinds })
	may(false, func(s *api.Snapshot) { s.State.Sealed = false })
	may(true, func(s *api.Snapshot) { s.State.Sealed, s.State.To = false, 0 })
}

// P9.1: Same, of each part that may be another one.
func TestSame(t *testing.T) {
	all := slices.Concat(goodSnapshots(), toldSnapshots(), untoldSnapshots())
	for _, a := range all {
		if !Same(a, own(a)) {
			t.Errorf("%v is not the same as itself", a)
		}
		for _, b := range all {
			if Same(a, b) != same(a, b) {
				t.Errorf("Same(%v, %v) = %v", a, b, !same(a, b))
			}
		}
	}
	for i, change := range []func(s *api.Snapshot){
		func(s *api.Snapshot) { s.Index++ },
		func(s *api.Snapshot) { s.State.Kind-- },
		func(s *api.Snapshot) { s.State.L[3]++ },
		func(s *api.Snapshot) { s.State.L = s.State.L[:2] },
		func(s *api.Snapshot) { s.State.Sealed = false },
		func(s *api.Snapshot) { s.State.To-- },
		func(s *api.Snapshot) { s.Table[2].Proc-- },
		func(s *api.Snapshot) { s.Table[0].Seq++ },
		func(s *api.Snapshot) { s.Table[1].Resp++ },
		func(s *api.Snapshot) { s.Table = s.Table[:2] },
		func(s *api.Snapshot) { s.Table = nil },
		func(s *api.Snapshot) { s.Table = append(s.Table, api.Entry{}) },
		func(s *api.Snapshot) { s.Table[0], s.Table[1] = s.Table[1], s.Table[0] },
	} {
		s := some()
		change(&s)
		if Same(some(), s) || Same(s, some()) {
			t.Errorf("change %d makes no other snapshot", i)
		}
	}
	if !Same(api.Snapshot{}, api.Snapshot{State: api.State{L: []int{}}, Table: []api.Entry{}}) {
		t.Error("a list without elements is another one than none")
	}
}

// P9.2, P9.3: wholes around the lengths at which a chunk more is cut.
func TestHowManyChunks(t *testing.T) {
	for length := 5; length <= 129; length++ {
		s := ofLength(length)
		if len(plainWhole(s)) != length {
			t.Fatalf("the whole of %v has %d bytes, not %d", s, len(plainWhole(s)), length)
		}
		wantEncoded(t, s)
	}
	for length, want := range map[int]int{63: 2, 64: 2, 65: 3, 127: 3, 128: 3, 129: 4} {
		b, _ := Encode(ofLength(length))
		parts := partsOf(2, plainWhole(ofLength(length)))
		if len(parts) != want || string(b) != joined(parts...) {
			t.Errorf("a whole of %d bytes: %d frames, not %d", length, len(parts), want)
		}
	}
	greatest := api.Snapshot{Index: topNumber, State: api.State{Kind: api.Store, L: pairs(64, 192, -topValue), Sealed: true, To: 2}, Table: tableOf(65)}
	wantEncoded(t, greatest)
	if chunks := len(plainChunks(plainWhole(greatest))); chunks < 20 {
		t.Errorf("only %d chunks", chunks)
	}
}

// P9.3: no bytes, and what is no frame, ahead of all other errors.
func TestDecodeOfFramesThatAreNone(t *testing.T) {
	if s, err := Decode(nil); err != api.ErrEnd || !isZero(s) {
		t.Error(s, err)
	}
	wantError(t, "", api.ErrEnd)
	whole := plainEncode(some())
	for with, want := range map[string]api.Errno{
		"\x80": api.ErrMore, "\x05abc": api.ErrMore, put(1 << 20): api.ErrMore, "\x80\x00": api.ErrForm, strings.Repeat("\xff", 10): api.ErrForm,
		put(1<<20 + 1): api.ErrTooLarge, put(topNumber): api.ErrTooLarge, "\x00\x00\x00\x00\x00": api.ErrSum,
	} {
		for _, ahead := range []string{"", whole, joined("no manifest"), joined(partsOf(300, plainWhole(some()))[0]), joined("\x73\x04\x00\x00")} {
			wantError(t, ahead+with, want)
		}
	}
}

// P9.3: a manifest's first byte, and its numbers.
func TestDecodeOfWrongManifests(t *testing.T) {
	whole := plainWhole(some())
	length, sum := put(len(whole)), sumOf(whole)
	var wrong []string
	for _, magic := range []string{"", "\x00", "\x72", "\x74", "\x6c", "\xf3", "\x53", "\x00\x73"} {
		wrong = append(wrong, magic+plainManifest(3, 300, len(whole), sum)[1:])
	}
	wrong = append(wrong, "", "\x73", "\x73\x03", "\x73\x03\x80", "\x73\x03\x05", "\x73\x03\x05\x80", "\x73\x04", "\x73\x04\x05", "\x73\x02\x05\xff", "\x73\x80")
	for _, none := range noGets() {
		wrong = append(wrong, "\x73"+none+put(300)+length+sum, "\x73\x03"+none+length+sum, "\x73\x03"+put(300)+none+sum, "\x73\x03"+put(300)+none)
		wrong = append(wrong, "\x73\x04"+none+length+sum, "\x73\x04"+put(300)+none+sum)
	}
	for _, manifest := range wrong {
		for _, chunks := range [][]string{plainChunks(whole), nil, {"x"}, {"x", "y"}} {
			wantError(t, joined(append([]string{manifest}, chunks...)...), api.ErrForm)
		}
	}
}

// P9.3: versions that are not 3, whatever stands behind them.
func TestDecodeOfVersions(t *testing.T) {
	whole := plainWhole(some())
	for _, version := range []int{0, 1, 2, 4, 5, 127, 128, 256 + 3, 1<<32 + 3, topNumber} {
		for _, sum := range []string{sumOf(whole), "", "abc", "abcd", "abcde"} {
			for _, chunks := range [][]string{plainChunks(whole), nil, {"x"}} {
				wantError(t, joined(append([]string{plainManifest(version, 300, len(whole), sum)}, chunks...)...), api.ErrVersion)
			}
		}
	}
	wantSnapshot(t, joined(append([]string{plainManifest(3, 300, len(whole), sumOf(whole))}, plainChunks(whole)...)...), some())
}

// P9.3: just four bytes must be left for the sum.
func TestDecodeOfWhatIsLeftOfAManifest(t *testing.T) {
	for _, s := range []api.Snapshot{some(), ofLength(128), ofLength(5)} {
		whole := plainWhole(s)
		sum := sumOf(whole)
		for _, left := range []string{"", sum[:1], sum[:2], sum[:3], sum + "\x00", "\x00" + sum, sum + sum[:1], sum + sum, sum + strings.Repeat("\x00", 4), sum + strings.Repeat("\x00", 1000)} {
			for _, length := range []int{len(whole), len(whole) + 1} {
				for _, chunks := range [][]string{plainChunks(whole), nil, {"x"}} {
					wantError(t, joined(append([]string{plainManifest(3, s.Index, length, left)}, chunks...)...), api.ErrForm)
				}
			}
		}
	}
}

// P9.3: chunks that are fewer or more bytes than the manifest says.
func TestDecodeOfOtherLengths(t *testing.T) {
	for _, length := range []int{5, 63, 64, 65, 127, 128, 129} {
		whole := plainWhole(ofLength(length))
		for _, told := range []int{0, 1, length - 1, length + 1, length + 64, length + 128, 2 * length, 1 << 32, topNumber} {
			for _, sum := range []string{sumOf(whole), "abcd"} {
				wantError(t, joined(append([]string{plainManifest(3, 2, told, sum)}, plainChunks(whole)...)...), api.ErrEnd)
			}
		}
		parts := partsOf(2, whole)
		last := len(parts) - 1
		wantError(t, joined(parts[:last]...), api.ErrEnd)
		wantError(t, joined(parts[0]), api.ErrEnd)
		wantError(t, joined(append(slices.Clone(parts), "x")...), api.ErrEnd)
		wantError(t, joined(append(slices.Clone(parts), parts...)...), api.ErrEnd)
		wantError(t, joined(append(slices.Clone(parts), parts[last])...), api.ErrEnd)
		wantError(t, joined(append(slices.Clone(parts[:last]), parts[last]+"\x00")...), api.ErrEnd)
		wantError(t, joined(append(slices.Clone(parts[:last]), parts[last][1:])...), api.ErrEnd)
	}
}

// P9.3: chunks of as many bytes as there must be, but cut otherwise, with a right sum and with a wrong one.
func TestDecodeOfOtherCuts(t *testing.T) {
	for _, length := range []int{5, 63, 64, 65, 127, 128, 129} {
		s := ofLength(length)
		whole := plainWhole(s)
		cuts := [][]string{slices.Insert(plainChunks(whole), 0, ""), append(plainChunks(whole), ""), append(plainChunks(whole), "", "")}
		if length > 64 {
			cuts = append(cuts, []string{whole}, slices.Insert(plainChunks(whole), 1, ""))
		}
		for at := 1; at < length; at++ {
			if at == 64 && length <= 128 {
				continue
			}
			cuts = append(cuts, []string{whole[:at], whole[at:]})
		}
		if length == 129 {
			cuts = append(cuts, []string{whole[:1], whole[1:65], whole[65:]}, []string{whole[:64], whole[64:65], whole[65:]}, []string{whole[:63], whole[63:127], whole[127:]}, []string{whole[:64], whole[64:127], whole[127:]})
		}
		for _, cut := range cuts {
			for _, sum := range []string{sumOf(whole), "abcd"} {
				wantError(t, joined(append([]string{plainManifest(3, 2, length, sum)}, cut...)...), api.ErrForm)
			}
		}
		wantSnapshot(t, joined(append([]string{plainManifest(3, 2, length, sumOf(whole))}, plainChunks(whole)...)...), s)
	}
}

// P9.3: a sum of the whole that is another one, though all frames have right ones.
func TestDecodeOfWrongSums(t *testing.T) {
	for _, s := range []api.Snapshot{some(), ofLength(64), ofLength(65), ofLength(129)} {
		whole := plainWhole(s)
		sum := sumOf(whole)
		var wrong []string
		for i := range 4 {
			b := []byte(sum)
			b[i] ^= 1
			wrong = append(wrong, string(b))
		}
		wrong = append(wrong, "\x00\x00\x00\x00", sum[3:]+sum[2:3]+sum[1:2]+sum[:1], sumOf(whole[1:]), sumOf(whole+"\x00"), sumOf(plainState(s.State)))
		for _, other := range wrong {
			wantError(t, joined(append([]string{plainManifest(3, s.Index, len(whole), other)}, plainChunks(whole)...)...), api.ErrSum)
		}
		for at := range len(whole) {
			b := []byte(whole)
			b[at] ^= 4
			wantError(t, joined(append([]string{plainManifest(3, s.Index, len(whole), sum)}, plainChunks(string(b))...)...), api.ErrSum)
		}
	}
	wantError(t, joined(plainManifest(3, 0, 0, "abcd")), api.ErrSum)
}

// wrongWholes are the whole of no state and table, though they begin as one.
func wrongWholes() []string {
	s := some()
	state, table, whole := plainState(s.State), plainTable(s.Table), plainWhole(s)
	length := put(len(state))
	wrong := []string{
		"", "\x00", "\x80", "\x05", "\x00\x00", "\x00" + table, length, length + state, length + state[1:] + table,
		put(len(state)-1) + state + table, put(len(state)+1) + state + table, put(len(state)-1) + state[:len(state)-1] + table, put(len(state)+1) + state + "\x00" + table,
		put(topNumber) + state + table, put(len(state+table)) + state + table, put(len(state+table)+1) + state + table, "\x88\x00" + state + table,
		whole + "\x00", whole + "\x80", whole + "\x01\x01\x01", whole + whole, "\x00" + whole,
		length + state + put(2) + table[1:], length + state + put(4) + table[1:], length + state + put(0) + table[1:], length + state + put(topNumber) + table[1:], length + state + "\x83\x00" + table[1:],
		length + state + put(1), length + state + put(1) + put(5), length + state + put(1) + put(5) + put(5), length + state + put(1) + put(5) + put(5) + "\x80",
		length + state + put(topNumber), length + state + put(1<<20), length + state + put(100) + strings.Repeat("\x01", 299),
	}
	for cut := range len(whole) {
		wrong = append(wrong, whole[:cut])
	}
	for _, none := range noGets() {
		wrong = append(wrong, none+state+table, length+state+none, length+state+none+table[1:])
		wrong = append(wrong, length+state+put(1)+none+put(1)+put(1), length+state+put(1)+put(1)+none+put(1))
	}
	for _, none := range noNumbers() {
		wrong = append(wrong, length+state+put(1)+put(1)+put(1)+none, length+state+put(2)+put(1)+put(1)+put(1)+put(2)+put(1)+none)
	}
	for _, none := range []string{"", "\x00", "\x00\x00", "\x00\x00\x01", "\x00\x00\x01\x0a\x00", "\x00\x04\x01\x0a", "\x02\x00" + put(129) + strings.Repeat("\x00", 129), "\x00\x00\x80\x00", "\x06\x04\x00"} {
		wrong = append(wrong, put(len(none))+none+table, put(len(none))+none+"\x00")
	}
	return wrong
}

// P9.3: wholes that are none, with right sums.
func TestDecodeOfWrongWholes(t *testing.T) {
	for _, whole := range wrongWholes() {
		wantError(t, ofWhole(300, whole), api.ErrForm)
	}
	// A state or entries that may not be make no whole of what is none.
	for _, s := range toldSnapshots() {
		whole := plainWhole(s)
		for _, other := range []string{whole[:len(whole)-1], whole + "\x00", whole + "\x80"} {
			wantError(t, ofWhole(s.Index, other), api.ErrForm)
		}
	}
}

// P9.3: wholes whose snapshot may not be.
func TestDecodeOfSnapshotsThatMayNotBe(t *testing.T) {
	for _, s := range toldSnapshots() {
		wantError(t, plainEncode(s), api.ErrArg)
	}
}

// P9.3, R2: where more than one error fits, the one that is named first.
func TestTheOrderOfErrors(t *testing.T) {
	wrongState := plainWhole(api.Snapshot{State: api.State{Kind: 9}})
	for _, c := range []struct {
		b    string
		want api.Errno
	}{
		{joined("no manifest") + "\x01", api.ErrMore},
		{joined("\x73\x04\x00\x00") + "\x80\x00", api.ErrForm},
		{joined("\x74\x04\x00\x00"), api.ErrForm},              // no MagicSnap, and version 4
		{joined("\x73\x04\x00"), api.ErrForm},                  // no length, and version 4
		{joined("\x73\x04\x00\x05abc"), api.ErrVersion},        // version 4, and three bytes
		{joined("\x73\x04\x00\x05abcd", "x"), api.ErrVersion},  // version 4, and another length
		{joined("\x73\x03\x00\x05abc", "x"), api.ErrForm},      // three bytes, and another length
		{joined("\x73\x03\x00\x05abcd", "x", "y"), api.ErrEnd}, // another length, and cut otherwise
		{joined("\x73\x03\x00\x02abcd", "xy"), api.ErrSum},     // another sum, and no whole
		{joined("\x73\x03\x00\x02abcd", "x", "y"), api.ErrForm},
		{joined("\x73\x03\x00\x00abcd"), api.ErrSum},
		{joined(append([]string{plainManifest(3, 0, len(wrongState), "abcd")}, wrongState)...), api.ErrSum},
		{ofWhole(0, wrongState+"x"), api.ErrForm}, // something behind it, and a state that may not be
		{ofWhole(0, wrongState), api.ErrArg},
	} {
		wantError(t, c.b, c.want)
	}
}

// P9.3, P9.6, P2: bytes cut at every place, with something behind them, and with any bit turned.
func TestCutAndLongerBytes(t *testing.T) {
	for _, s := range []api.Snapshot{some(), ofLength(5), ofLength(64), ofLength(65), ofLength(128), {Index: 9, State: objs.Start(api.Ledger), Table: tableOf(65)}} {
		whole := plainEncode(s)
		for end := range len(whole) {
			if got, err := Decode([]byte(whole[:end])); err == api.OK || !isZero(got) {
				t.Errorf("Decode takes %d bytes of %d", end, len(whole))
			}
			for bit := range 8 {
				b := []byte(whole)
				b[end] ^= 1 << bit
				if got, err := Decode(b); err == api.OK || !isZero(got) {
					t.Errorf("Decode takes bytes whose bit %d of byte %d was turned", bit, end)
				}
			}
		}
		for _, behind := range []string{"\x00", "\x80", "x", joined(""), joined("\x00"), joined("x"), whole, whole[:len(whole)-1]} {
			if got, err := Decode([]byte(whole + behind)); err == api.OK || !isZero(got) {
				t.Errorf("Decode takes %x behind %x", short(behind), short(whole))
			}
		}
		wantError(t, whole+joined(""), api.ErrForm)
		wantError(t, whole+joined("\x00"), api.ErrEnd)
		wantError(t, whole+whole, api.ErrEnd)
		wantSnapshot(t, whole, s)
	}
}

// P9.3, P9.6: bytes of all sorts, by the chapter's words; what is decoded is encoded as the same bytes.
func TestBytesByTheChaptersWords(t *testing.T) {
	told := map[api.Errno]int{}
	spoiled(func(b string) {
		want, err := plainDecode(b)
		told[err]++
		if err != api.OK {
			wantError(t, b, err)
			return
		}
		wantSnapshot(t, b, want)
		s, _ := Decode([]byte(b))
		if again, err := Encode(s); err != api.OK || string(again) != b {
			t.Errorf("Decode(%x) is encoded as %x, error %d", b, again, err)
		}
	})
	for _, err := range []api.Errno{api.OK, api.ErrForm, api.ErrSum, api.ErrEnd, api.ErrVersion, api.ErrArg} {
		if told[err] < 20 {
			t.Errorf("of error %d there were %d alone", err, told[err])
		}
	}
}

// R3: what Encode, May and Same are handed stays as it was, also behind its end, and the bytes are the caller's own.
func TestWhatIsEncodedStaysAsItWas(t *testing.T) {
	for _, s := range slices.Concat(goodSnapshots(), toldSnapshots(), untoldSnapshots()) {
		room := api.Snapshot{Index: s.Index, State: s.State, Table: append(slices.Clone(s.Table), api.Entry{Proc: 64}, api.Entry{Proc: -1})}
		room.State.L = append(slices.Clone(s.State.L), 1, 2)
		lent, was := room, own(room)
		lent.State.L, lent.Table = room.State.L[:len(s.State.L)], room.Table[:len(s.Table)]
		b, err := Encode(lent)
		May(lent)
		Same(lent, lent)
		if !same(room, was) {
			t.Errorf("Encode, May and Same made %v of %v", room, was)
		}
		if err != api.OK {
			continue
		}
		other, _ := Encode(lent)
		other = other[:cap(other)]
		for i := range other {
			other[i] = 'w'
		}
		clear(room.State.L)
		clear(room.Table)
		if string(b) != plainEncode(s) {
			t.Errorf("one answer of %v changed another", s)
		}
	}
}

// R3: what Decode reads stays as it was, what stands behind its end is not read, and the lists are the caller's own.
func TestWhatIsDecodedStaysAsItWas(t *testing.T) {
	for _, s := range goodSnapshots() {
		whole := plainEncode(s)
		room := []byte(whole + joined("x"))
		lent := room[:len(whole)]
		got, err := Decode(lent)
		if err != api.OK || string(room) != whole+joined("x") {
			t.Errorf("Decode made %x of %x, error %d", room, whole, err)
		}
		other, _ := Decode(lent)
		spill(other)
		clear(room)
		if !same(got, s) {
			t.Errorf("one answer of %v changed another", s)
		}
	}
}

// spill writes over all that a snapshot's lists have room for.
func spill(s api.Snapshot) {
	l, table := s.State.L[:cap(s.State.L)], s.Table[:cap(s.Table)]
	for i := range l {
		l[i] = -7
	}
	for i := range table {
		table[i] = api.Entry{Proc: -7, Seq: -7, Resp: -7}
	}
}

// R5: what was asked before changes nothing.
func TestNothingIsKept(t *testing.T) {
	for range 3 {
		for _, s := range []api.Snapshot{some(), ofLength(65), ofLength(64), {State: objs.Start(api.Stack)}} {
			wantEncoded(t, s)
			wantError(t, joined("x"), api.ErrForm)
			wantRefused(t, api.Snapshot{Index: -1, State: objs.Start(api.Stack)})
		}
	}
}

// R1: great inputs end.
func TestGreatInputs(t *testing.T) {
	for _, with := range []string{"\x00", "\x01", "\x40", "\x73", "\x7f", "\x80", "\xff", "\x01\x00"} {
		great := strings.Repeat(with, 1<<19/len(with))
		wantError(t, joined("\x74"+great[1:]), api.ErrForm)
		wantError(t, ofWhole(0, great), api.ErrForm)
		wantError(t, joined(plainManifest(3, 0, len(great), sumOf(great)), great), api.ErrForm)
		wantError(t, joined(plainManifest(3, 0, topNumber, sumOf(great)), great), api.ErrEnd)
		Decode([]byte(great + great))
	}
	s := some()
	s.Table = make([]api.Entry, 1<<17)
	wantRefused(t, s)
	wantError(t, ofWhole(300, plainWhole(api.Snapshot{State: some().State})[:9]+put(1<<17)+strings.Repeat("\x01", 3<<17)), api.ErrArg)
	wantError(t, joined(partsOf(300, plainWhole(some()))...)+strings.Repeat(joined(""), 1<<16), api.ErrForm)
	s.Table, s.State.L = nil, make([]int, 1<<20)
	wantRefused(t, s)
}
