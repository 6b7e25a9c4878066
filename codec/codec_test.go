package codec

import (
	"bytes"
	"math"
	"slices"
	"strings"
	"testing"

	"ferryman/api"
	"ferryman/objs"
)

// equal tells whether all of two states is the same, in words of this test.
func equal(a, b api.State) bool {
	return a.Kind == b.Kind && a.Sealed == b.Sealed && a.To == b.To && slices.Equal(a.L, b.L)
}

func isZero(s api.State) bool { return equal(s, api.State{}) }

// wantGetOp asks of GetOp that operation, and so many bytes.
func wantGetOp(t *testing.T, b string, want api.Op, wantSize int) {
	t.Helper()
	if o, size := GetOp([]byte(b)); o != want || size != wantSize {
		t.Errorf("GetOp(%x) = %v, %d, want %v, %d", b, o, size, want, wantSize)
	}
}

// wantNoOp asks of GetOp noughts.
func wantNoOp(t *testing.T, b string) {
	t.Helper()
	wantGetOp(t, b, api.Op{}, 0)
}

// wantState asks of DecodeState that state.
func wantState(t *testing.T, b string, want api.State) {
	t.Helper()
	if s, err := DecodeState([]byte(b)); err != api.OK || !equal(s, want) {
		t.Errorf("DecodeState(%x) = %v, error %d, want %v", b, s, err, want)
	}
}

// wantError asks of DecodeState that error, and the zero State.
func wantError(t *testing.T, b string, want api.Errno) {
	t.Helper()
	if s, err := DecodeState([]byte(b)); err != want || !isZero(s) {
		t.Errorf("DecodeState(%x) = %v, error %d, want error %d", b, s, err, want)
	}
}

// aheads are bytes that something is put behind.
func aheads() []string {
	return []string{"", "\x00", "\x80", "x", "\x01\x06\x00", strings.Repeat("\xff", 12), strings.Repeat("abc", 200)}
}

// P5.1: the chapter's example, and bytes worked out by hand: each code, and the bounds of A and B.
func TestOpExamples(t *testing.T) {
	for _, c := range []struct {
		o    api.Op
		want string
	}{
		{api.Op{Code: api.Add, A: 3}, "\x01\x06\x00"},
		{api.Op{}, "\x00\x00\x00"},
		{api.Op{Code: api.Write, A: -1}, "\x02\x01\x00"},
		{api.Op{Code: api.Push, A: 63}, "\x03\x7e\x00"},
		{api.Op{Code: api.Pop, A: -64}, "\x04\x7f\x00"},
		{api.Op{Code: api.Put, A: 64, B: -65}, "\x05\x80\x01\x81\x01"},
		{api.Op{Code: api.Put, A: -3, B: 300}, "\x05\x05\xd8\x04"},
		{api.Op{Code: api.Delete, B: 1}, "\x06\x00\x02"},
		{api.Op{Code: api.Get, A: 255}, "\x07\xfe\x03\x00"},
		{api.Op{Code: api.Deposit, A: 1, B: most}, "\x08\x02\x80\x80\x80\x80\x80\x40"},
		{api.Op{Code: api.Move, A: 65535, B: -most}, "\x09\xfe\xff\x07\xff\xff\xff\xff\xff\x3f"},
		{api.Op{Code: api.Seal, A: most, B: most}, "\x0a\x80\x80\x80\x80\x80\x40\x80\x80\x80\x80\x80\x40"},
		{api.Op{Code: api.Seal, A: -most, B: most - 1}, "\x0a\xff\xff\xff\xff\xff\x3f\xfe\xff\xff\xff\xff\x3f"},
	} {
		if b, err := PutOp(nil, c.o); err != api.OK || string(b) != c.want {
			t.Errorf("PutOp(nothing, %v) = %x, error %d, want %x", c.o, b, err, c.want)
		}
		wantGetOp(t, c.want, c.o, len(c.want))
	}
}

// P5.1: every operation that fits, behind nothing and behind other bytes.
func TestPutOpByItsWords(t *testing.T) {
	for _, o := range goodOps() {
		for _, ahead := range aheads() {
			if b, err := PutOp([]byte(ahead), o); err != api.OK || string(b) != ahead+plainOp(o) {
				t.Errorf("PutOp(%x, %v) = %x, error %d", ahead, o, b, err)
			}
		}
	}
}

// P5.1: with an error the answer is b, and not nothing.
func TestPutOpOfWhatDoesNotFit(t *testing.T) {
	for _, o := range wrongOps() {
		for _, ahead := range aheads() {
			if b, err := PutOp([]byte(ahead), o); err != api.ErrArg || string(b) != ahead {
				t.Errorf("PutOp(%x, %v) = %x, error %d", ahead, o, b, err)
			}
		}
		if b, err := PutOp(nil, o); err != api.ErrArg || len(b) != 0 {
			t.Errorf("PutOp(nil, %v) = %x, error %d", o, b, err)
		}
	}
}

// P5.1: the bounds one by one, by numbers alone.
func TestPutOpAtTheBounds(t *testing.T) {
	for _, n := range []int{-most, most, 0} {
		for _, code := range []int{0, 10} {
			for _, o := range []api.Op{{Code: code, A: n}, {Code: code, B: n}, {Code: code, A: n, B: n}} {
				if _, err := PutOp(nil, o); err != api.OK {
					t.Errorf("PutOp(nothing, %v): error %d", o, err)
				}
			}
		}
	}
	for _, o := range []api.Op{
		{Code: -1}, {Code: 11}, {A: -most - 1}, {A: most + 1}, {B: -most - 1}, {B: most + 1},
		{A: math.MinInt}, {A: math.MaxInt}, {B: math.MinInt}, {B: math.MaxInt}, {Code: math.MinInt}, {Code: math.MaxInt},
	} {
		if b, err := PutOp([]byte("x"), o); err != api.ErrArg || string(b) != "x" {
			t.Errorf("PutOp(x, %v) = %x, error %d", o, b, err)
		}
	}
}

// P5.4: what was put is got again, whatever stands behind it.
func TestWhatWasPutIsGotAgain(t *testing.T) {
	behinds := slices.Concat(aheads(), noNumbers(), cutNumbers())
	for _, o := range goodOps() {
		b, _ := PutOp(nil, o)
		for _, behind := range behinds {
			wantGetOp(t, string(b)+behind, o, len(b))
		}
	}
}

// P5.1: the first, the second and the third number is cut off.
func TestGetOpOfCutBytes(t *testing.T) {
	for _, o := range goodOps() {
		b := plainOp(o)
		for at := range len(b) {
			wantNoOp(t, b[:at])
		}
	}
	for _, cut := range cutNumbers() {
		for _, ahead := range []string{"", "\x01", "\x01\x06", "\x0a\x80\x01"} {
			wantNoOp(t, ahead+cut)
		}
	}
	if o, size := GetOp(nil); o != (api.Op{}) || size != 0 {
		t.Error(o, size)
	}
}

// P5.1: the first, the second and the third number is none; what stands behind it makes none of it.
func TestGetOpOfNoNumbers(t *testing.T) {
	for _, none := range noNumbers() {
		for _, ahead := range []string{"", "\x00", "\x01\x06", "\x00\x00", "\x0a\x80\x01"} {
			for _, behind := range []string{"", "\x00", "\x00\x00", "\x00\x00\x00", "\x01\x06\x00"} {
				wantNoOp(t, ahead+none+behind)
			}
		}
	}
}

// P5.1: numbers that are there, but make an operation that does not fit.
func TestGetOpOfWhatDoesNotFit(t *testing.T) {
	for _, o := range wrongOps() {
		if o.Code < 0 {
			continue
		}
		for _, behind := range []string{"", "\x00", "\x01\x06\x00"} {
			wantNoOp(t, plainOp(o)+behind)
		}
	}
	for _, b := range []string{
		"\x0b\x00\x00", "\x7f\x00\x00", "\x8a\x01\x00\x00",
		strings.Repeat("\xff", 8) + "\x3f\x00\x00", // 2^62 - 1
		strings.Repeat("\x80", 8) + "\x40\x00\x00", // 2^62
		strings.Repeat("\x80", 9) + "\x01\x00\x00", // 2^63: a number of GetSigned alone
		"\x00\x82\x80\x80\x80\x80\x40\x00",         // MAX + 1
		"\x00\x81\x80\x80\x80\x80\x40\x00",         // -MAX - 1
		"\x00\x00\x82\x80\x80\x80\x80\x40",
		"\x00\x00\x81\x80\x80\x80\x80\x40",
		"\x00\x00" + strings.Repeat("\xff", 9) + "\x01", // the least int
		"\x00\xfe" + strings.Repeat("\xff", 8) + "\x01\x00",
	} {
		wantNoOp(t, b)
	}
	wantGetOp(t, "\x00\x80\x80\x80\x80\x80\x40\x00", api.Op{A: most}, 8)
	wantGetOp(t, "\x00\x00\xff\xff\xff\xff\xff\x3f", api.Op{B: -most}, 8)
}

// P5.1, P5.4: bytes of all sorts; what is got is put as the same bytes.
func TestGetOpByItsWords(t *testing.T) {
	got := 0
	someBytes(func(s string) {
		want, wantSize := plainGetOp(s)
		wantGetOp(t, s, want, wantSize)
		if wantSize == 0 {
			return
		}
		got++
		if b, err := PutOp(nil, want); err != api.OK || string(b) != s[:wantSize] {
			t.Errorf("GetOp(%x) is put as %x, error %d", s, b, err)
		}
	})
	if got < 1000 {
		t.Errorf("only %d were got", got)
	}
}

// P5.2, P5.3: the chapter's example, and bytes worked out by hand.
func TestStateExamples(t *testing.T) {
	for _, c := range []struct {
		s    api.State
		want string
	}{
		{api.State{Kind: api.Counter, L: []int{5}}, "\x00\x00\x01\x0a"},
		{api.State{Kind: api.Register, L: []int{-most}}, "\x01\x00\x01\xff\xff\xff\xff\xff\x3f"},
		{api.State{Kind: api.Counter, L: []int{0}, Sealed: true}, "\x00\x01\x01\x00"},
		{api.State{Kind: api.Queue}, "\x02\x00\x00"},
		{api.State{Kind: api.Queue, Sealed: true, To: api.Replicas}, "\x02\x03\x00"},
		{api.State{Kind: api.Queue, L: slices.Repeat([]int{-1}, 64)}, "\x02\x00\x40" + strings.Repeat("\x01", 64)},
		{api.State{Kind: api.Stack, L: []int{1, 64}}, "\x03\x00\x02\x02\x80\x01"},
		{api.State{Kind: api.Store, L: []int{1, 5, 9, -5}, Sealed: true, To: api.Psim}, "\x04\x02\x04\x02\x0a\x12\x09"},
		{api.State{Kind: api.Ledger, L: []int{255, most}}, "\x05\x00\x02\xfe\x03\x80\x80\x80\x80\x80\x40"},
	} {
		if b, err := EncodeState(c.s); err != api.OK || string(b) != c.want {
			t.Errorf("EncodeState(%v) = %x, error %d, want %x", c.s, b, err, c.want)
		}
		wantState(t, c.want, c.s)
	}
}

// P5.2, P5.4: every state that may be; as many numbers as there may be have a count of two bytes.
func TestWhatWasEncodedIsDecoded(t *testing.T) {
	for _, s := range goodStates() {
		b, err := EncodeState(s)
		if err != api.OK || string(b) != plainState(s) {
			t.Errorf("EncodeState(%v) = %x, error %d", s, b, err)
		}
		wantState(t, string(b), s)
	}
	b, _ := EncodeState(api.State{Kind: api.Store, L: pairs(64, 0, 0)})
	if !strings.HasPrefix(string(b), "\x04\x00\x80\x01\x00\x00\x02\x00") || len(b) != 4+128 {
		t.Errorf("a full store: %x", b)
	}
}

// P5.2: what may not be is nothing.
func TestEncodeStateOfWhatMayNotBe(t *testing.T) {
	for _, s := range slices.Concat(toldStates(), untoldStates()) {
		if objs.May(s) {
			t.Fatalf("%v may be", s)
		}
		if b, err := EncodeState(s); err != api.ErrArg || len(b) != 0 {
			t.Errorf("EncodeState(%v) = %x, error %d", s, b, err)
		}
	}
}

// P5.3: cut at each place the numbers are not there, also of a state that may not be.
func TestDecodeStateOfCutBytes(t *testing.T) {
	for _, s := range slices.Concat(goodStates(), toldStates()) {
		b := plainState(s)
		for at := range len(b) {
			wantError(t, b[:at], api.ErrForm)
		}
	}
	if s, err := DecodeState(nil); err != api.ErrForm || !isZero(s) {
		t.Error(s, err)
	}
}

// P5.3: something stands behind, also behind a state that may not be (R2: ErrForm is named first).
func TestDecodeStateWithSomethingBehind(t *testing.T) {
	for _, s := range slices.Concat(goodStates(), toldStates()) {
		for _, behind := range []string{"\x00", "\x01", "\x80", "\xff\xff", "\x00\x00\x01\x0a", strings.Repeat("\x00", 200)} {
			wantError(t, plainState(s)+behind, api.ErrForm)
		}
	}
}

// P5.3: numbers that are there, of a state that may not be.
func TestDecodeStateOfWhatMayNotBe(t *testing.T) {
	for _, s := range toldStates() {
		wantError(t, plainState(s), api.ErrArg)
	}
	for _, b := range []string{
		"\x00\x00\x00", "\x04\x00\x01\x02", "\x06\x00\x00", "\x06\x03\x01\x00", "\x05\x00\x02\x00\x01", "\x04\x00\x04\x04\x00\x02\x00",
		"\x00\x00\x01\x82\x80\x80\x80\x80\x40", "\x00\x00\x01" + strings.Repeat("\xff", 9) + "\x01", strings.Repeat("\xff", 8) + "\x3f\x00\x00",
	} {
		wantError(t, b, api.ErrArg)
	}
}

// P5.3: the second number, of a state that may be and of one that may not.
func TestDecodeStateSealNumber(t *testing.T) {
	wantState(t, "\x00\x00\x01\x0a", api.State{L: []int{5}})
	wantState(t, "\x00\x01\x01\x0a", api.State{L: []int{5}, Sealed: true, To: 0})
	wantState(t, "\x00\x02\x01\x0a", api.State{L: []int{5}, Sealed: true, To: 1})
	wantState(t, "\x00\x03\x01\x0a", api.State{L: []int{5}, Sealed: true, To: 2})
	wantError(t, "\x00\x03\x00", api.ErrArg)
	for _, seal := range []uint64{4, 5, 127, 128, 256, 1 << 32, 1<<32 + 1, 1<<62 - 1, 1 << 62, 1 << 63, math.MaxUint64} {
		for _, kind := range []string{"\x00", "\x06"} {
			wantError(t, kind+plainPut(seal)+"\x01\x0a", api.ErrForm)
			wantError(t, kind+plainPut(seal)+"\x00", api.ErrForm)
			wantError(t, kind+plainPut(seal), api.ErrForm)
		}
	}
}

// P5.3: the third number, with too few, just as many and more behind it.
func TestDecodeStateCount(t *testing.T) {
	for kind := range 8 {
		for n := 120; n < 140; n++ {
			s := api.State{Kind: kind, L: make([]int, n)}
			want := api.ErrArg // noughts are no rising keys
			if n > 128 {
				want = api.ErrForm
			}
			b := plainState(s)
			wantError(t, b, want)
			wantError(t, b+"\x00", api.ErrForm)
			wantError(t, b[:len(b)-1], api.ErrForm)
		}
		for _, count := range []uint64{129, 130, 255, 256, 1 << 20, 1 << 31, 1 << 32, 1<<32 + 1, 1 << 40, 1<<62 - 1, 1 << 62, 1 << 63, math.MaxUint64} {
			for _, behind := range []string{"", "\x00", "\x0a", strings.Repeat("\x00", 128), strings.Repeat("\x00", 129), strings.Repeat("\x00", 300)} {
				wantError(t, plainPut(uint64(kind))+"\x00"+plainPut(count)+behind, api.ErrForm)
			}
		}
	}
	full := api.State{Kind: api.Store, L: pairs(64, 192, -1)}
	wantState(t, plainState(full), full)
	wantError(t, plainState(api.State{Kind: api.Store, L: pairs(64, 0, 1)})+plainSigned(64)+plainSigned(1), api.ErrForm)
	wantError(t, plainState(api.State{Kind: api.Store, L: pairs(65, 0, 1)}), api.ErrForm)
}

// P5.3: each number in its turn is none; what stands behind it makes none of it.
func TestDecodeStateOfNoNumbers(t *testing.T) {
	for _, none := range append(noNumbers(), cutNumbers()...) {
		for _, ahead := range []string{"", "\x02", "\x02\x00", "\x00\x00\x01", "\x02\x00\x02\x00", "\x06\x00\x01", "\x04\x01\x03\x00\x00"} {
			wantError(t, ahead+none, api.ErrForm)
		}
	}
	for _, none := range noNumbers() {
		for _, behind := range []string{"", "\x00", "\x01\x00", "\x00\x00", "\x00\x01\x0a", "\x00\x00\x01\x0a"} {
			wantError(t, none+behind, api.ErrForm)
			wantError(t, "\x02"+none+behind, api.ErrForm)
			wantError(t, "\x02\x00"+none+behind, api.ErrForm)
			wantError(t, "\x02\x00\x01"+none+behind, api.ErrForm)
			wantError(t, "\x02\x00\x02"+none+behind, api.ErrForm)
		}
	}
	wide := plainPut(1 << 63) // a number of GetSigned, but none of Get
	wantError(t, wide+"\x00\x00", api.ErrForm)
	wantError(t, "\x02"+wide+"\x00", api.ErrForm)
	wantError(t, "\x02\x00"+wide, api.ErrForm)
	wantError(t, "\x02\x00\x01"+wide, api.ErrArg)
}

// P5.3, P5.4: bytes of all sorts; what is decoded is encoded as the same bytes.
func TestDecodeStateByItsWords(t *testing.T) {
	counts := map[api.Errno]int{}
	someBytes(func(b string) {
		want, wantErr := plainDecode(b)
		s, err := DecodeState([]byte(b))
		if err != wantErr || !equal(s, want) {
			t.Errorf("DecodeState(%x) = %v, error %d, want %v, error %d", b, s, err, want, wantErr)
		}
		counts[err]++
		if err != api.OK {
			return
		}
		if again, err := EncodeState(s); err != api.OK || string(again) != b {
			t.Errorf("DecodeState(%x) is encoded as %x, error %d", b, again, err)
		}
	})
	if counts[api.OK] < 1000 || counts[api.ErrForm] < 1000 || counts[api.ErrArg] < 1000 || len(counts) != 3 {
		t.Error(counts)
	}
}

// fill writes over all that can be reached from l, behind its end too.
func fill[E any](l []E, with E) {
	l = l[:cap(l)]
	for i := range l {
		l[i] = with
	}
}

// R3: what is handed to PutOp stays, also behind its end, and its answer is the caller's own; so it is with an error.
func TestWhatPutOpAnswersIsTheCallersOwn(t *testing.T) {
	for _, o := range []api.Op{{}, {Code: api.Put, A: -3, B: 300}, {Code: 11}, {A: most + 1}} {
		for _, ahead := range aheads() {
			room := []byte(ahead + strings.Repeat("r", 40))
			kept := bytes.Clone(room)
			in := room[:len(ahead)]
			first, _ := PutOp(in, o)
			want := string(first)
			second, _ := PutOp(in, o)
			fill(second, 'w')
			if string(first) != want || !bytes.Equal(room, kept) {
				t.Errorf("PutOp(%x, %v): a changed answer changed what was handed in, or another answer", ahead, o)
			}
			fill(room, 'v')
			if string(first) != want {
				t.Errorf("PutOp(%x, %v): what was handed in changed the answer", ahead, o)
			}
		}
	}
}

// R3: likewise a state's bytes, and the state's numbers with something behind their end.
func TestWhatEncodeStateAnswersIsTheCallersOwn(t *testing.T) {
	for _, s := range slices.Concat(goodStates(), toldStates()) {
		room := append(slices.Clone(s.L), 888, 888, 888)
		kept := slices.Clone(room)
		s.L = room[:len(s.L)]
		first, _ := EncodeState(s)
		want := string(first)
		second, _ := EncodeState(s)
		fill(second, 'w')
		if string(first) != want || !slices.Equal(room, kept) {
			t.Errorf("EncodeState(%v): a changed answer changed what was handed in, or another answer", s)
		}
		fill(room, 777)
		if string(first) != want {
			t.Errorf("EncodeState(%v): what was handed in changed the answer", s)
		}
	}
}

// R3: what is read stays as it was, also behind its end, and nothing behind its end is read; a state's numbers are the caller's own.
func TestWhatIsReadStaysAsItWas(t *testing.T) {
	for i, s := range slices.Concat(goodStates(), toldStates()) {
		b := plainState(s)
		room := []byte(b + "\x00\x00\x00")
		in := room[:len(b)-i%2] // every second one is cut: its last byte stands behind the end
		first, err := DecodeState(in)
		second, _ := DecodeState(in)
		if i%2 == 1 && err != api.ErrForm {
			t.Errorf("DecodeState(%x) with %x behind its end: error %d", in, room[len(in):], err)
		}
		want := first
		want.L = slices.Clone(first.L)
		fill(second.L, 777)
		if !equal(first, want) || string(room) != b+"\x00\x00\x00" {
			t.Errorf("DecodeState(%x): a changed answer changed what was handed in, or another answer", b)
		}
		fill(room, 'v')
		if !equal(first, want) {
			t.Errorf("DecodeState(%x): what was handed in changed the answer", b)
		}
	}
	for _, o := range goodOps() {
		b := plainOp(o)
		room := []byte(b)
		if _, size := GetOp(room); size != len(b) {
			t.Errorf("GetOp(%x): %d", b, size)
		}
		if got, size := GetOp(room[:len(b)-1]); size != 0 || got != (api.Op{}) {
			t.Errorf("GetOp(%x) with its last byte behind the end: %v, %d", b, got, size)
		}
		if string(room) != b {
			t.Errorf("GetOp(%x) made %x of it", b, room)
		}
	}
}

// R5: what was asked before changes no answer.
func TestNothingIsKept(t *testing.T) {
	for range 3 {
		wantGetOp(t, "\x05\x05\xd8\x04\x07", api.Op{Code: api.Put, A: -3, B: 300}, 4)
		wantNoOp(t, "\x05\x05\xd8")
		wantState(t, "\x00\x00\x01\x0a", api.State{L: []int{5}})
		wantError(t, "\x00\x00\x01", api.ErrForm)
		wantError(t, "\x00\x00\x00", api.ErrArg)
		if b, err := PutOp([]byte("x"), api.Op{Code: api.Add, A: 3}); err != api.OK || string(b) != "x\x01\x06\x00" {
			t.Errorf("%x %d", b, err)
		}
		if b, err := EncodeState(api.State{L: []int{5}}); err != api.OK || string(b) != "\x00\x00\x01\x0a" {
			t.Errorf("%x %d", b, err)
		}
	}
}

// R1: great inputs end.
func TestGreatInputs(t *testing.T) {
	for _, fillWith := range []string{"\x00", "\x01", "\x7f", "\x80", "\xff"} {
		great := strings.Repeat(fillWith, 1<<22)
		want, wantSize := plainGetOp(great)
		wantGetOp(t, great, want, wantSize)
		if s, err := DecodeState([]byte(great)); err != api.ErrForm || !isZero(s) {
			t.Errorf("DecodeState of many %x: %v, error %d", fillWith, s, err)
		}
		if b, err := PutOp([]byte(great), api.Op{Code: api.Add, A: 3}); err != api.OK || string(b) != great+"\x01\x06\x00" {
			t.Errorf("PutOp behind many %x: %d bytes, error %d", fillWith, len(b), err)
		}
	}
	for kind := range 6 {
		if b, err := EncodeState(api.State{Kind: kind, L: make([]int, 1<<22)}); err != api.ErrArg || len(b) != 0 {
			t.Errorf("EncodeState of many numbers: %d bytes, error %d", len(b), err)
		}
	}
}
