package num

import (
	"bytes"
	"encoding/hex"
	"math"
	"math/big"
	"slices"
	"strings"
	"testing"

	"ferryman/api"
)

// unhex reads bytes as the document writes them, as in "ac 02"; "80*9" is nine times 80.
func unhex(t *testing.T, s string) []byte {
	t.Helper()
	var out []byte
	for _, word := range strings.Fields(s) {
		one, times := word, 1
		if at := strings.Index(word, "*"); at >= 0 {
			one, times = word[:at], 0
			for _, digit := range word[at+1:] {
				times = 10*times + int(digit-'0')
			}
		}
		b, err := hex.DecodeString(one)
		if err != nil {
			t.Fatal(s, err)
		}
		out = append(out, bytes.Repeat(b, times)...)
	}
	return out
}

// plainGroups is the chapter's word "groups", by division instead of by shifts.
func plainGroups(n *big.Int) []byte {
	n = new(big.Int).Set(n)
	rest, base := new(big.Int), big.NewInt(128)
	var out []byte
	for {
		n.DivMod(n, base, rest)
		c := byte(rest.Int64())
		if n.Sign() == 0 {
			return append(out, c)
		}
		out = append(out, c+128)
	}
}

// plainGet is the number whose groups b begins with, if it is below the limit.
func plainGet(b []byte, limit *big.Int) (*big.Int, int) {
	n, base := new(big.Int), big.NewInt(1)
	for i, c := range b {
		n.Add(n, new(big.Int).Mul(base, big.NewInt(int64(c%128))))
		base.Mul(base, big.NewInt(128))
		if c < 128 {
			if n.Cmp(limit) < 0 && bytes.Equal(plainGroups(n), b[:i+1]) {
				return n, i + 1
			}
			break
		}
	}
	return new(big.Int), 0
}

func plainZig(n int) *big.Int {
	twice := new(big.Int).Mul(big.NewInt(2), big.NewInt(int64(n)))
	if n >= 0 {
		return twice
	}
	return twice.Sub(twice.Neg(twice), big.NewInt(1))
}

func powerOfTwo(n uint) *big.Int { return new(big.Int).Lsh(big.NewInt(1), n) }

// edges are all numbers of 64 bits around the powers of two, where groups begin and limits stand, each once.
func edges() []int {
	var out []int
	for shift := range 64 {
		for near := -2; near <= 2; near++ {
			n := int(uint64(1)<<shift) + near
			out = append(out, n, -n)
		}
	}
	out = append(out, 300, -300, 123456789, -987654321)
	slices.Sort(out)
	return slices.Compact(out)
}

func TestEdgesHoldTheLeastAndTheGreatest(t *testing.T) {
	l := edges()
	for _, n := range []int{0, -1, 127, 128, api.MaxNum - 1, api.MaxNum, math.MinInt, math.MaxInt} {
		if !slices.Contains(l, n) {
			t.Error("lacks", n)
		}
	}
}

// P1.1
func TestPut(t *testing.T) {
	for _, c := range []struct {
		n    int
		want string
	}{
		{0, "00"},
		{1, "01"},
		{127, "7f"},
		{128, "80 01"},
		{300, "ac 02"},
		{16383, "ff 7f"},
		{16384, "80 80 01"},
		{1<<56 - 1, "ff*7 7f"},
		{1 << 56, "80*8 01"},
		{api.MaxNum - 1, "ff*8 3f"},
	} {
		if got := Put(nil, c.n); !bytes.Equal(got, unhex(t, c.want)) {
			t.Errorf("Put(nothing, %d) = % x, want %s", c.n, got, c.want)
		}
		if got := Put([]byte{0x80, 7}, c.n); !bytes.Equal(got, unhex(t, "80 07 "+c.want)) {
			t.Errorf("Put(80 07, %d) = % x, want 80 07 %s", c.n, got, c.want)
		}
	}
}

// P1.1
func TestPutOfWhatMayNotBeIsOnlyWhatWasAhead(t *testing.T) {
	for _, n := range []int{-1, -128, math.MinInt, api.MaxNum, api.MaxNum + 1, math.MaxInt} {
		for _, ahead := range []string{"", "00", "ff 80 01"} {
			if got := Put(unhex(t, ahead), n); !bytes.Equal(got, unhex(t, ahead)) {
				t.Errorf("Put(%q, %d) = % x", ahead, n, got)
			}
		}
		if got := Put(nil, n); len(got) != 0 {
			t.Errorf("Put(nil, %d) = % x", n, got)
		}
	}
}

// P1.1
func TestPutIsTheGroups(t *testing.T) {
	for _, n := range edges() {
		want := []byte{9}
		if n >= 0 && n < api.MaxNum {
			want = append(want, plainGroups(big.NewInt(int64(n)))...)
		}
		if got := Put([]byte{9}, n); !bytes.Equal(got, want) {
			t.Errorf("Put(09, %d) = % x, want % x", n, got, want)
		}
	}
}

// P1.1
func TestGet(t *testing.T) {
	for _, c := range []struct {
		b    string
		n, k int
	}{
		{"00", 0, 1},
		{"00 00", 0, 1},
		{"01 80", 1, 1},
		{"7f", 127, 1},
		{"80 01", 128, 2},
		{"ac 02", 300, 2},
		{"ac 02 ff ff", 300, 2},
		{"80 80 01", 16384, 3},
		{"ff*8 3f", api.MaxNum - 1, 9},
		{"ff*8 3f 00*20", api.MaxNum - 1, 9},
		{"80*8 01", 1 << 56, 9},
	} {
		if n, k := Get(unhex(t, c.b)); n != c.n || k != c.k {
			t.Errorf("Get(%s) = %d, %d, want %d, %d", c.b, n, k, c.n, c.k)
		}
	}
}

// P1.1
func TestGetFindsNone(t *testing.T) {
	for _, s := range []string{
		"",                                            // no bytes
		"80", "ff", "80 80", "ff*8", "ff*9", "80*100", // the last one lacks
		"80 00", "81 00", "ff 00 01", "80 80 00", "ff*8 00", "80*9 00", "80*20 00", // it is 0 and not the only one
		"80*8 40", "81 80*7 40", "ff*8 40", "ff*8 7f", // not below 2^62, in nine groups
		"80*9 01", "ff*9 01", "80*9 02", "ff*9 7f", // in ten
		"80*10 01", "ff*10 01", "80*63 01", "81 80*63 01", // in more than ten
	} {
		if n, k := Get(unhex(t, s)); n != 0 || k != 0 {
			t.Errorf("Get(%s) = %d, %d", s, n, k)
		}
	}
	if n, k := Get(nil); n != 0 || k != 0 {
		t.Errorf("Get(nil) = %d, %d", n, k)
	}
}

// P1.2
func TestZigAndZag(t *testing.T) {
	for _, c := range []struct {
		n int
		u uint64
	}{
		{0, 0},
		{-1, 1},
		{1, 2},
		{-2, 3},
		{2, 4},
		{-64, 127},
		{64, 128},
		{1 << 62, 1 << 63},
		{-1 << 62, 1<<63 - 1},
		{math.MaxInt, math.MaxUint64 - 1},
		{math.MinInt, math.MaxUint64},
	} {
		if u := Zig(c.n); u != c.u {
			t.Errorf("Zig(%d) = %d, want %d", c.n, u, c.u)
		}
		if n := Zag(c.u); n != c.n {
			t.Errorf("Zag(%d) = %d, want %d", c.u, n, c.n)
		}
	}
	for _, n := range edges() {
		if u := Zig(n); u != plainZig(n).Uint64() {
			t.Errorf("Zig(%d) = %d", n, u)
		}
		if back := Zag(Zig(n)); back != n {
			t.Errorf("Zag(Zig(%d)) = %d", n, back)
		}
		if u := uint64(n); Zig(Zag(u)) != u {
			t.Errorf("Zig(Zag(%d)) = %d", u, Zig(Zag(u)))
		}
	}
}

// P1.3
func TestPutSigned(t *testing.T) {
	for _, c := range []struct {
		n    int
		want string
	}{
		{0, "00"},
		{-1, "01"},
		{1, "02"},
		{63, "7e"},
		{-64, "7f"},
		{64, "80 01"},
		{-300, "d7 04"},
		{1<<62 - 1, "fe ff*7 7f"},
		{-1 << 62, "ff*8 7f"},
		{1 << 62, "80*9 01"},
		{math.MaxInt, "fe ff*8 01"},
		{math.MinInt, "ff*9 01"},
	} {
		if got := PutSigned(nil, c.n); !bytes.Equal(got, unhex(t, c.want)) {
			t.Errorf("PutSigned(nothing, %d) = % x, want %s", c.n, got, c.want)
		}
		if n, k := GetSigned(unhex(t, c.want+" ff 00")); n != c.n || k != len(unhex(t, c.want)) {
			t.Errorf("GetSigned(%s ff 00) = %d, %d, want %d", c.want, n, k, c.n)
		}
	}
	for _, n := range edges() {
		want := append([]byte{0xff, 0}, plainGroups(plainZig(n))...)
		if got := PutSigned([]byte{0xff, 0}, n); !bytes.Equal(got, want) {
			t.Errorf("PutSigned(ff 00, %d) = % x, want % x", n, got, want)
		}
	}
}

// P1.3
func TestGetSignedFindsNone(t *testing.T) {
	for _, s := range []string{
		"",                                   // no bytes
		"80", "ff", "ff*9", "80*10", "ff*10", // the last one lacks
		"80 00", "ff 00 02", "80 80 00", "ff*8 00", // it is 0 and not the only one
		"80*9 00", "ff*9 00", "80*9 02", "80*9 03", "ff*9 7f", "80*9 41", // the tenth is not 1
		"80*9 81", "80*9 81 00", "80*9 81 01", "80*10 01", "ff*10 01", "80*100 01", // more than ten
	} {
		if n, k := GetSigned(unhex(t, s)); n != 0 || k != 0 {
			t.Errorf("GetSigned(%s) = %d, %d", s, n, k)
		}
	}
	if n, k := GetSigned(nil); n != 0 || k != 0 {
		t.Errorf("GetSigned(nil) = %d, %d", n, k)
	}
}

// someBytes hands on all bytes of length one and two, and longer ones whose groups but the last are alike.
func someBytes(each func(b []byte)) {
	for c := range 256 {
		each([]byte{byte(c)})
		for d := range 256 {
			each([]byte{byte(c), byte(d)})
		}
	}
	for length := range 13 {
		for _, fill := range []byte{0x80, 0x81, 0xc0, 0xff} {
			for last := range 256 {
				b := append(bytes.Repeat([]byte{fill}, length), byte(last))
				each(b)
				each(append(b, 1))
				b[0] ^= 1
				each(b)
			}
		}
	}
}

// P1.1, P1.3
func TestGettingIsAsTheChapterTells(t *testing.T) {
	someBytes(func(b []byte) {
		want, length := plainGet(b, powerOfTwo(62))
		if n, k := Get(b); n != int(want.Int64()) || k != length {
			t.Errorf("Get(% x) = %d, %d, want %d, %d", b, n, k, want, length)
		}
		want, length = plainGet(b, powerOfTwo(64))
		n, k := GetSigned(b)
		if k != length || k == 0 && n != 0 || k != 0 && plainZig(n).Cmp(want) != 0 {
			t.Errorf("GetSigned(% x) = %d, %d, want what %d is Zig of, %d", b, n, k, want, length)
		}
	})
}

// P1.4
func TestFixed(t *testing.T) {
	for n, want := range map[uint32]string{
		0: "00*4", 1: "01 00*3", 258: "02 01 00 00", 0x04030201: "01 02 03 04", 1 << 31: "00*3 80", math.MaxUint32: "ff*4",
	} {
		if got := Fixed32(n); !bytes.Equal(got, unhex(t, want)) {
			t.Errorf("Fixed32(%d) = % x, want %s", n, got, want)
		}
		if back := Fixed(Fixed32(n)); back != uint64(n) {
			t.Errorf("Fixed(Fixed32(%d)) = %d", n, back)
		}
	}
	for n, want := range map[uint64]string{
		0: "00*8", 1: "01 00*7", 1<<63 + 7: "07 00*6 80", 0x0807060504030201: "01 02 03 04 05 06 07 08", math.MaxUint64: "ff*8",
	} {
		if got := Fixed64(n); !bytes.Equal(got, unhex(t, want)) {
			t.Errorf("Fixed64(%d) = % x, want %s", n, got, want)
		}
	}
	for _, n := range edges() {
		if back := Fixed(Fixed64(uint64(n))); back != uint64(n) {
			t.Errorf("Fixed(Fixed64(%d)) = %d", uint64(n), back)
		}
	}
}

// P1.4
func TestFixedOfAnyNumberOfBytes(t *testing.T) {
	for s, want := range map[string]uint64{
		"":                              0,
		"05":                            5,
		"00":                            0,
		"02 01":                         258,
		"00 00 80":                      1 << 23,
		"01 02 03 04 05 06 07":          0x07060504030201,
		"01 02 03 04 05 06 07 08":       0x0807060504030201,
		"01 02 03 04 05 06 07 08 09":    0x0807060504030201,
		"01 02 03 04 05 06 07 88 ff*50": 0x8807060504030201,
		"00*8 01":                       0,
	} {
		if got := Fixed(unhex(t, s)); got != want {
			t.Errorf("Fixed(%s) = %x, want %x", s, got, want)
		}
	}
	if got := Fixed(nil); got != 0 {
		t.Errorf("Fixed(nil) = %d", got)
	}
}

// P1.5
func TestWhatWasPutIsGotAgain(t *testing.T) {
	for _, behind := range []string{"", "00", "01", "7f", "80", "ff", "ff*20", "00*20"} {
		tail := unhex(t, behind)
		for _, n := range edges() {
			b := PutSigned(nil, n)
			if m, k := GetSigned(append(b, tail...)); m != n || k != len(b) {
				t.Errorf("GetSigned(PutSigned(%d), %s) = %d, %d", n, behind, m, k)
			}
			if n < 0 || n >= api.MaxNum {
				continue
			}
			b = Put(nil, n)
			if m, k := Get(append(b, tail...)); m != n || k != len(b) {
				t.Errorf("Get(Put(%d), %s) = %d, %d", n, behind, m, k)
			}
		}
	}
}

// P1.5
func TestNoNumbersBytesBeginAnothers(t *testing.T) {
	var plain, signed [][]byte
	for _, n := range edges() {
		signed = append(signed, PutSigned(nil, n))
		if n >= 0 && n < api.MaxNum {
			plain = append(plain, Put(nil, n))
		}
	}
	for _, l := range [][][]byte{plain, signed} {
		for i, a := range l {
			for j, b := range l {
				if i != j && bytes.HasPrefix(a, b) {
					t.Errorf("% x begins with % x", a, b)
				}
			}
		}
	}
}

// putters are the calls that answer bytes with others ahead of them, also where nothing is put.
func putters() map[string]func(b []byte) []byte {
	return map[string]func(b []byte) []byte{
		"Put 5":              func(b []byte) []byte { return Put(b, 5) },
		"Put 2^62-1":         func(b []byte) []byte { return Put(b, api.MaxNum-1) },
		"Put -1":             func(b []byte) []byte { return Put(b, -1) },
		"Put 2^62":           func(b []byte) []byte { return Put(b, api.MaxNum) },
		"PutSigned 5":        func(b []byte) []byte { return PutSigned(b, 5) },
		"PutSigned least":    func(b []byte) []byte { return PutSigned(b, math.MinInt) },
		"PutSigned greatest": func(b []byte) []byte { return PutSigned(b, math.MaxInt) },
	}
}

// R3
func TestWhatIsHandedInStaysAsItWas(t *testing.T) {
	for name, put := range putters() {
		room := bytes.Repeat([]byte{0xee}, 30)
		put(room[:3])
		if !bytes.Equal(room, bytes.Repeat([]byte{0xee}, 30)) {
			t.Errorf("%s changed what it was handed: % x", name, room)
		}
	}
	someBytes(func(b []byte) {
		ahead := bytes.Clone(b)
		Get(b)
		GetSigned(b)
		Fixed(b)
		if !bytes.Equal(b, ahead) {
			t.Errorf("% x was changed to % x", ahead, b)
		}
	})
}

// R3
func TestWhatIsAnsweredIsTheCallersOwn(t *testing.T) {
	fill := func(b []byte) {
		b = b[:cap(b)]
		for i := range b {
			b[i] = 0xdd
		}
	}
	for name, put := range putters() {
		for _, b := range [][]byte{{1, 2, 3}, append(make([]byte, 0, 30), 1, 2, 3)} {
			first, second := put(b), put(b)
			ahead := bytes.Clone(first)
			fill(second)
			if !bytes.Equal(first, ahead) || !bytes.Equal(b, []byte{1, 2, 3}) {
				t.Errorf("%s: another answer's bytes are these: % x, % x", name, first, b)
			}
			fill(b)
			if !bytes.Equal(first, ahead) {
				t.Errorf("%s: the answer is what was handed in", name)
			}
		}
	}
	fill(Fixed32(7))
	fill(Fixed64(7))
	if Fixed(Fixed32(7)) != 7 || Fixed(Fixed64(7)) != 7 {
		t.Error("an answer that was changed is told again")
	}
}

// R1: many bytes, none of them a last one.
func TestLongBytesWithoutAnEnd(t *testing.T) {
	b := bytes.Repeat([]byte{0xff}, 1<<20)
	for range 1000 {
		n, k := Get(b)
		m, l := GetSigned(b)
		if n != 0 || k != 0 || m != 0 || l != 0 {
			t.Fatal(n, k, m, l)
		}
	}
	if Fixed(b) != math.MaxUint64 {
		t.Error(Fixed(b))
	}
}
