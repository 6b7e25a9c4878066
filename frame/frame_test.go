package frame

import (
	"bytes"
	"encoding/hex"
	"hash/crc32"
	"math"
	"slices"
	"strings"
	"testing"

	"ferryman/api"
)

// unhex reads bytes as the document writes them, as in "ac 02"; "80*9" is nine times 80.
func unhex(t *testing.T, s string) []byte {
	t.Helper()
	var out []byte
	for _, word := range strings.Fields(s) {
		one, times := word, 1
		if at := strings.Index(word, "*"); at >= 0 {
			one, times = word[:at], 0
			for _, digit := range word[at+1:] {
				times = 10*times + int(digit-'0')
			}
		}
		b, err := hex.DecodeString(one)
		if err != nil {
			t.Fatal(s, err)
		}
		out = append(out, bytes.Repeat(b, times)...)
	}
	return out
}

// someBytes are n bytes that look like chance, the same ones for one seed.
func someBytes(n int, seed uint32) []byte {
	out := make([]byte, n)
	for i := range out {
		seed = 1664525*seed + 1013904223
		out[i] = byte(seed >> 24)
	}
	return out
}

// plainLength is a length as bytes, by division.
func plainLength(n int) []byte {
	var out []byte
	for ; n > 127; n /= 128 {
		out = append(out, byte(n%128+128))
	}
	return append(out, byte(n))
}

// plainFrame is the chapter's word "frame", with a sum from elsewhere.
func plainFrame(data []byte) []byte {
	out := append(plainLength(len(data)), data...)
	sum := crc32.Checksum(out, crc32.MakeTable(crc32.Castagnoli))
	return append(out, byte(sum), byte(sum>>8), byte(sum>>16), byte(sum>>24))
}

// plainDecode is the chapter's P3.2: a length that Get finds is one of at most ten bytes that is told the same way again, and below 2^62.
func plainDecode(b []byte) ([]byte, int, api.Errno) {
	k := slices.IndexFunc(b, func(c byte) bool { return c < 128 }) + 1
	if k == 0 && len(b) < 10 {
		return nil, 0, api.ErrMore
	}
	if k == 0 || k > 9 || k > 1 && b[k-1] == 0 {
		return nil, 0, api.ErrForm
	}
	n := 0
	for i := k - 1; i >= 0; i-- {
		n = 128*n + int(b[i])%128
	}
	if n >= 1<<62 {
		return nil, 0, api.ErrForm
	}
	if n > 1<<20 {
		return nil, 0, api.ErrTooLarge
	}
	if len(b) < k+n+4 {
		return nil, 0, api.ErrMore
	}
	if !bytes.Equal(plainFrame(b[k:k+n]), b[:k+n+4]) {
		return nil, 0, api.ErrSum
	}
	return b[k : k+n], k + n + 4, api.OK
}

// lengths are those that the chapter and the number of a length's bytes make edges.
func lengths() []int {
	return []int{0, 1, 2, 3, 126, 127, 128, 129, 255, 256, 16382, 16383, 16384, 16385, api.MaxFrame - 1, api.MaxFrame}
}

// datas are data of those lengths: noughts, bytes that look like a length that goes on, and mixed ones.
func datas() [][]byte {
	out := [][]byte{nil, {}, []byte("abc")}
	for _, n := range lengths() {
		out = append(out, make([]byte, n), bytes.Repeat([]byte{0xff}, n), someBytes(n, uint32(n)))
	}
	return out
}

// encode is Encode where no error may be.
func encode(t *testing.T, data []byte) []byte {
	t.Helper()
	b, err := Encode(data)
	if err != api.OK {
		t.Fatalf("Encode of %d bytes: error %d", len(data), err)
	}
	return b
}

// several are the frames of data, one behind the other.
func several(t *testing.T, datas ...[]byte) []byte {
	t.Helper()
	var out []byte
	for _, data := range datas {
		out = append(out, encode(t, data)...)
	}
	return out
}

// wantError asks of Decode that error, and noughts with it.
func wantError(t *testing.T, b []byte, want api.Errno) {
	t.Helper()
	data, n, err := Decode(b)
	if err != want || len(data) != 0 || n != 0 {
		t.Errorf("Decode of %d bytes, % x..: %d bytes, %d, error %d, want error %d", len(b), b[:min(len(b), 20)], len(data), n, err, want)
	}
}

// wantAll asks of All these data or that error.
func wantAll(t *testing.T, b []byte, want [][]byte, wantErr api.Errno) {
	t.Helper()
	got, err := All(b)
	if err != wantErr || !slices.EqualFunc(got, want, bytes.Equal) {
		t.Errorf("All of %d bytes, % x..: %d data, error %d, want %d, error %d", len(b), b[:min(len(b), 20)], len(got), err, len(want), wantErr)
	}
}

// wantWhole asks of Whole these data, and so many bytes.
func wantWhole(t *testing.T, b []byte, want [][]byte, wantSize int) {
	t.Helper()
	got, size := Whole(b)
	if size != wantSize || !slices.EqualFunc(got, want, bytes.Equal) {
		t.Errorf("Whole of %d bytes, % x..: %d data, %d, want %d, %d", len(b), b[:min(len(b), 20)], len(got), size, len(want), wantSize)
	}
}

// P3.1: the chapter's example, and frames with sums known from elsewhere.
func TestEncodeExamples(t *testing.T) {
	for _, c := range []struct{ data, frame string }{
		{"", "00 51 53 7d 52"},
		{"00", "01 00 a5 ef c3 e2"},
		{"61 62 63", "03 61 62 63 33 5e 6a 7c"},
	} {
		if got := encode(t, unhex(t, c.data)); !bytes.Equal(got, unhex(t, c.frame)) {
			t.Errorf("Encode(%s): % x, want %s", c.data, got, c.frame)
		}
	}
	if got := encode(t, nil); !bytes.Equal(got, unhex(t, "00 51 53 7d 52")) {
		t.Errorf("Encode(nil): % x", got)
	}
}

// P3.1: data of each length, word by word; the length's bytes are summed too.
func TestEncodeByItsWords(t *testing.T) {
	for _, data := range datas() {
		if got := encode(t, data); !bytes.Equal(got, plainFrame(data)) {
			t.Errorf("Encode of %d bytes: %d bytes, % x..", len(data), len(got), got[:min(len(got), 20)])
		}
	}
	for n, head := range map[int]string{127: "7f", 128: "80 01", 16383: "ff 7f", 16384: "80 80 01", api.MaxFrame: "80 80 40"} {
		if got := encode(t, make([]byte, n)); !bytes.HasPrefix(got, append(unhex(t, head), 0)) {
			t.Errorf("Encode of %d bytes begins with % x, want %s", n, got[:4], head)
		}
	}
}

// P3.1: just 2^20 bytes have a frame, one more and many more have none. R4.
func TestEncodeTooLarge(t *testing.T) {
	for _, n := range []int{api.MaxFrame + 1, api.MaxFrame + 2, 2 * api.MaxFrame, 1 << 24} {
		if b, err := Encode(make([]byte, n)); err != api.ErrTooLarge || len(b) != 0 {
			t.Errorf("Encode of %d bytes: %d bytes, error %d", n, len(b), err)
		}
	}
	if b, err := Encode(make([]byte, 1<<20)); err != api.OK || len(b) != 1<<20+7 {
		t.Errorf("Encode of 2^20 bytes: %d bytes, error %d", len(b), err)
	}
}

// P3.1
func TestSize(t *testing.T) {
	for n, want := range map[int]int{
		math.MinInt: 0, -1 << 20: 0, -1 << 32: 0, -128: 0, -2: 0, -1: 0,
		0: 5, 1: 6, 3: 8, 126: 131, 127: 132, 128: 134, 129: 135, 16383: 16389, 16384: 16391,
		1<<20 - 1: 1<<20 + 6, 1 << 20: 1<<20 + 7,
		1<<20 + 1: 0, 1 << 21: 0, 1 << 32: 0, 1<<32 + 5: 0, 1<<62 - 1: 0, 1 << 62: 0, math.MaxInt - 4: 0, math.MaxInt: 0,
	} {
		if got := Size(n); got != want {
			t.Errorf("Size(%d) = %d, want %d", n, got, want)
		}
	}
	for _, n := range lengths() {
		if got := len(encode(t, make([]byte, n))); got != Size(n) {
			t.Errorf("Size(%d) = %d, but the frame has %d", n, Size(n), got)
		}
	}
}

// P3.2: each error, at its edges, and the one named first where more than one fits (R2).
func TestDecodeErrors(t *testing.T) {
	for _, c := range []struct {
		b    string
		want api.Errno
	}{
		{"", api.ErrMore},
		{"80", api.ErrMore}, // Get finds nothing either: ErrMore is named first
		{"ff", api.ErrMore},
		{"80 80", api.ErrMore},
		{"ff ff ff", api.ErrMore},
		{"80*9", api.ErrMore},
		{"ff*9", api.ErrMore},
		{"80*10", api.ErrForm},
		{"ff*10", api.ErrForm},
		{"80*11", api.ErrForm},
		{"ff*1000", api.ErrForm},
		{"80*9 01", api.ErrForm}, // 2^63
		{"80*8 40", api.ErrForm}, // 2^62, which is above 2^20 too: ErrForm is named first
		{"80*8 40 00*20", api.ErrForm},
		{"ff*8 7f", api.ErrForm},                                      // 2^63 - 1
		{"ff*8 3f", api.ErrTooLarge},                                  // 2^62 - 1
		{"80 00", api.ErrForm},                                        // a needless last byte: of 0,
		{"81 00", api.ErrForm},                                        // of 1,
		{"80 80 00", api.ErrForm},                                     // of a needless byte,
		{"81 80 c0 00", api.ErrForm},                                  // of a length above 2^20,
		{"ff*8 00", api.ErrForm},                                      // of the greatest ones,
		{"80*8 00 00", api.ErrForm},                                   // with bytes behind it
		{"80 00 51 53 7d 52", api.ErrForm},                            // and as a frame
		{"81 80 40", api.ErrTooLarge},                                 // 2^20 + 1, of which all bytes lack: ErrTooLarge is named first
		{"81 80 40 00*100", api.ErrTooLarge},                          // with some bytes behind it
		{"80 80 80 01", api.ErrTooLarge},                              // 2^21
		{"80*4 10", api.ErrTooLarge},                                  // 2^32
		{"80 80 40", api.ErrMore},                                     // 2^20 itself
		{"ff ff 3f", api.ErrMore},                                     // 2^20 - 1
		{"00", api.ErrMore},                                           // no sum
		{"00 00 00 00", api.ErrMore},                                  // a sum that is cut and is another one: ErrMore is named first
		{"00 51 53 7d", api.ErrMore},                                  // a sum that is cut
		{"00 00 00 00 00", api.ErrSum},                                // the chapter's example
		{"00 52 7d 53 51", api.ErrSum},                                // the sum, the highest byte first
		{"01", api.ErrMore},                                           // no data
		{"03 61 62", api.ErrMore},                                     // data that are cut
		{"03 61 62 63 33 5e 6a", api.ErrMore},                         // and their sum
		{"03 61 62 63 b7 3f 4b 36", api.ErrSum},                       // the sum of the data alone
		{"03 61 62 64 33 5e 6a 7c", api.ErrSum},                       // other data
		{"03 61 62 63 33 5e 6a 7d 7c", api.ErrSum},                    // the right byte one later
		{"80 01 00*131", api.ErrMore},                                 // one byte fewer than the frame of 128
		{"80 01 00*132", api.ErrSum},                                  // as many
		{"ff 01 00*3", api.ErrMore},                                   // 255
		{"02 80 80", api.ErrMore}, {"02 80 80 00 00 00", api.ErrMore}, // the data are no length
	} {
		wantError(t, unhex(t, c.b), c.want)
	}
	wantError(t, nil, api.ErrMore)
	for n := range 40 {
		want := api.ErrForm
		if n < 10 {
			want = api.ErrMore
		}
		for _, fill := range []byte{0x80, 0x81, 0xc0, 0xff} {
			wantError(t, bytes.Repeat([]byte{fill}, n), want)
		}
	}
}

// P3.2: a length above 2^20 is too large with as many bytes behind it as a frame would have, and with the right sum.
func TestDecodeTooLarge(t *testing.T) {
	for _, n := range []int{api.MaxFrame + 1, api.MaxFrame + 2, 2 * api.MaxFrame} {
		b := plainFrame(make([]byte, n))
		wantError(t, b, api.ErrTooLarge)
		wantError(t, b[:4], api.ErrTooLarge)
		wantError(t, append(b, 0), api.ErrTooLarge)
	}
}

// P3.2, P3.4: what was encoded is decoded, with nothing and with anything behind it.
func TestWhatWasEncodedIsDecoded(t *testing.T) {
	for _, data := range datas() {
		frame := encode(t, data)
		for _, behind := range []string{"", "00", "80", "ff", "00*9", "ff*20", "51 53 7d 52", "00 51 53 7d 52"} {
			got, n, err := Decode(append(bytes.Clone(frame), unhex(t, behind)...))
			if err != api.OK || n != len(frame) || n != Size(len(data)) || !bytes.Equal(got, data) {
				t.Errorf("the frame of %d bytes and %q behind it: %d bytes, %d, error %d", len(data), behind, len(got), n, err)
			}
		}
	}
}

// P3.2: a frame cut at every place lacks bytes; a great one at its ends and in between.
func TestDecodeOfACutFrame(t *testing.T) {
	for _, data := range datas() {
		frame := encode(t, data)
		step := max(1, len(frame)/997)
		for at := 0; at < len(frame); at += step {
			wantError(t, frame[:at], api.ErrMore)
		}
		for last := range min(len(frame), 20) {
			wantError(t, frame[:len(frame)-1-last], api.ErrMore)
			wantError(t, frame[:last], api.ErrMore)
		}
	}
}

// P3.2: each byte of the sum, and each byte that is summed, tells.
func TestDecodeOfAWrongSum(t *testing.T) {
	for _, data := range datas() {
		frame := encode(t, data)
		if len(frame) > 20000 {
			continue
		}
		for place := range 4 {
			at := len(frame) - 4 + place
			for _, turn := range []byte{1, 0x10, 0x80, 0xff} {
				b := bytes.Clone(frame)
				b[at] ^= turn
				wantError(t, b, api.ErrSum)
				wantError(t, append(b, frame...), api.ErrSum)
			}
		}
		for at := len(frame) - 4 - len(data); at < len(frame)-4; at += max(1, len(frame)/101) {
			b := bytes.Clone(frame)
			b[at]++
			wantError(t, b, api.ErrSum)
		}
	}
}

// startingBytes are all of one and two bytes, many with a length of each size, and frames with something changed.
func startingBytes(t *testing.T, each func(b []byte)) {
	for c := range 256 {
		each([]byte{byte(c)})
		for d := range 256 {
			each([]byte{byte(c), byte(d)})
		}
	}
	for length := range 13 {
		for _, fill := range []byte{0x80, 0x81, 0xc0, 0xff} {
			for last := range 256 {
				b := append(bytes.Repeat([]byte{fill}, length), byte(last))
				each(b)
				each(append(b, 1, 2, 3, 4, 5, 6, 7))
			}
		}
	}
	for seed := range 3000 {
		b := someBytes(seed%40, uint32(seed))
		each(b)
		frame := several(t, b, b)
		each(frame)
		frame[seed%len(frame)] ^= byte(seed / 7)
		each(frame)
		each(frame[:seed%len(frame)])
	}
}

// P3.2, and P3.4: what is decoded is encoded as the same bytes.
func TestDecodeByItsWords(t *testing.T) {
	decoded := 0
	startingBytes(t, func(b []byte) {
		data, n, err := Decode(b)
		want, size, wantErr := plainDecode(b)
		if err != wantErr || n != size || !bytes.Equal(data, want) {
			t.Errorf("Decode(% x): % x, %d, error %d, want % x, %d, error %d", b, data, n, err, want, size, wantErr)
		}
		if err != api.OK {
			return
		}
		decoded++
		if again := encode(t, data); !bytes.Equal(again, b[:n]) {
			t.Errorf("Decode(% x) is encoded as % x", b, again)
		}
	})
	if decoded < 1000 {
		t.Errorf("only %d were decoded", decoded)
	}
}

// P3.3
func TestAllAndWholeOfNothing(t *testing.T) {
	for _, b := range [][]byte{nil, {}} {
		wantAll(t, b, nil, api.OK)
		wantWhole(t, b, nil, 0)
	}
}

// P3.3: one frame, several, the same ones, those of nothing, great ones.
func TestAllAndWholeOfFrames(t *testing.T) {
	for _, list := range [][][]byte{
		{{}},
		{[]byte("abc")},
		{{}, {}, {}},
		{[]byte("a"), {}, []byte("bc"), []byte("bc"), make([]byte, 200)},
		datas(),
		slices.Repeat([][]byte{{7}}, 300),
	} {
		b := several(t, list...)
		wantAll(t, b, list, api.OK)
		wantWhole(t, b, list, len(b))
	}
}

// P3.3, P3.4: of frames cut at every place All tells what lacks, and Whole just those that are whole.
func TestAllAndWholeOfCutFrames(t *testing.T) {
	list := [][]byte{[]byte("abc"), {}, someBytes(130, 1), {0}, someBytes(127, 2), {}, []byte("end")}
	b := several(t, list...)
	whole, size := 0, 0
	for at := range len(b) + 1 {
		for whole < len(list) && size+Size(len(list[whole])) <= at {
			size += Size(len(list[whole]))
			whole++
		}
		wantWhole(t, b[:at], list[:whole], size)
		if at == size {
			wantAll(t, b[:at], list[:whole], api.OK)
		} else {
			wantAll(t, b[:at], nil, api.ErrMore)
		}
	}
	if whole != len(list) {
		t.Errorf("%d of %d were whole", whole, len(list))
	}
}

// P3.3: an error at the beginning, within, and at the end; of two the first one is told, also with frames behind it.
func TestAllAndWholeOfAnError(t *testing.T) {
	list := [][]byte{[]byte("abc"), {}, someBytes(130, 1)}
	behind := several(t, []byte("behind"), nil)
	for _, c := range []struct {
		fault string
		want  api.Errno
	}{
		{"80*10", api.ErrForm},
		{"81 00", api.ErrForm},
		{"81 80 40", api.ErrTooLarge},
		{"00 00 00 00 00", api.ErrSum},
		{"03 61 62 64 33 5e 6a 7c", api.ErrSum},
		{"80 80 40 00", api.ErrMore},
		{"00 00 00 00 00 81 00", api.ErrSum},
		{"81 00 00 00 00 00 00", api.ErrForm},
		{"81 80 40 81 00", api.ErrTooLarge},
	} {
		for whole := range len(list) + 1 {
			ahead := several(t, list[:whole]...)
			b := append(bytes.Clone(ahead), unhex(t, c.fault)...)
			wantAll(t, b, nil, c.want)
			wantWhole(t, b, list[:whole], len(ahead))
			b = append(b, behind...)
			wantAll(t, b, nil, c.want)
			wantWhole(t, b, list[:whole], len(ahead))
		}
	}
}

// turn is b with these bits turned; bit 0 is the lowest one of the first byte.
func turn(b []byte, bits ...int) []byte {
	out := bytes.Clone(b)
	for _, bit := range bits {
		out[bit/8] ^= 1 << (bit % 8)
	}
	return out
}

// wantNotWhole asks that no bytes are taken for a frame that is as long as they are.
func wantNotWhole(t *testing.T, frame []byte, bits ...int) {
	t.Helper()
	b := turn(frame, bits...)
	if _, n, err := Decode(b); err == api.OK && n == len(frame) {
		t.Fatalf("a frame of %d bytes with the bits %v turned is a whole one", len(frame), bits)
	}
	if list, n := Whole(b); n == len(frame) && len(list) == 1 {
		t.Fatalf("Whole of a frame of %d bytes with the bits %v turned is one frame", len(frame), bits)
	}
	if list, err := All(b); err == api.OK && len(list) == 1 {
		t.Fatalf("All of a frame of %d bytes with the bits %v turned is one frame", len(frame), bits)
	}
}

// bursts are bits within 32: all of each width, its ends, and mixed ones.
func bursts() [][]int {
	masks := []uint32{0x80000003, 0x82f63b79, 0xedb88321}
	for width := range 32 {
		masks = append(masks, 1<<width, 1<<width|1, 1<<width-1|1<<width)
	}
	for seed := range 30 {
		c := someBytes(4, uint32(seed))
		masks = append(masks, uint32(c[0])|uint32(c[1])<<8|uint32(c[2])<<16|uint32(c[3])<<24|1)
	}
	var out [][]int
	for _, mask := range masks {
		var bits []int
		for i := range 32 {
			if mask>>i&1 == 1 {
				bits = append(bits, i)
			}
		}
		out = append(out, bits)
	}
	return out
}

// P3.4: bits turned within 32, at every place of the length, the data and the sum, and where these meet.
func TestBitsTurnedCloseToEachOther(t *testing.T) {
	for _, data := range [][]byte{nil, []byte("abc"), make([]byte, 9), bytes.Repeat([]byte{0xff}, 12), someBytes(128, 5)} {
		frame := encode(t, data)
		for _, bits := range bursts() {
			for at := 0; at+bits[len(bits)-1] < 8*len(frame); at++ {
				if len(data) == 128 && at > 60 && at < 8*len(frame)-100 {
					continue
				}
				moved := slices.Clone(bits)
				for i := range moved {
					moved[i] += at
				}
				wantNotWhole(t, frame, moved...)
			}
		}
	}
}

// P3.4: one bit anywhere, and three anywhere.
func TestOneAndThreeBitsTurned(t *testing.T) {
	for _, data := range [][]byte{nil, {0}, []byte("abc")} {
		frame := encode(t, data)
		for i := range 8 * len(frame) {
			wantNotWhole(t, frame, i)
			for j := range i {
				for k := range j {
					wantNotWhole(t, frame, k, j, i)
				}
			}
		}
	}
	for _, n := range []int{127, 128, 500, 16384} {
		frame := encode(t, someBytes(n, uint32(n)))
		bits := 8 * len(frame)
		for i := 0; i < bits; i += max(1, bits/400) {
			wantNotWhole(t, frame, i)
			wantNotWhole(t, frame, i, (i+7919)%bits, (i+104729)%bits)
			wantNotWhole(t, frame, i, (i+1)%bits, (i+bits/2)%bits)
		}
	}
}

// R3: what is handed in stays as it was, also behind its end.
func TestWhatIsHandedInStaysAsItWas(t *testing.T) {
	for _, list := range [][][]byte{{{}}, {[]byte("abc")}, {[]byte("abc"), {}, someBytes(200, 1)}} {
		frames := several(t, list...)
		for n := range len(frames) + 1 {
			room := append(bytes.Clone(frames), bytes.Repeat([]byte{0xee}, 50)...)
			kept := bytes.Clone(room)
			Encode(room[:n])
			Decode(room[:n])
			All(room[:n])
			Whole(room[:n])
			if !bytes.Equal(room, kept) {
				t.Fatalf("%d bytes of % x were changed", n, kept)
			}
		}
	}
}

// fill writes over all that can be reached from b, behind its end too.
func fill(b []byte) {
	b = b[:cap(b)]
	for i := range b {
		b[i] = 0xdd
	}
}

// R3: Encode's frame is the caller's own, and data that are changed change no frame.
func TestTheFrameIsTheCallersOwn(t *testing.T) {
	for _, n := range []int{0, 1, 3, 127, 128, 16384} {
		data := append(make([]byte, 0, n+50), someBytes(n, 1)...)
		kept := bytes.Clone(data)
		first, second := encode(t, data), encode(t, data)
		want := bytes.Clone(first)
		fill(second)
		if !bytes.Equal(first, want) || !bytes.Equal(data, kept) {
			t.Errorf("a changed frame of %d bytes changed another, or its data", n)
		}
		fill(data)
		if !bytes.Equal(first, want) {
			t.Errorf("changed data of %d bytes changed their frame", n)
		}
	}
}

// readers are the calls that answer data.
func readers() map[string]func(b []byte) [][]byte {
	return map[string]func(b []byte) [][]byte{
		"Decode": func(b []byte) [][]byte {
			data, _, _ := Decode(b)
			return [][]byte{data}
		},
		"All": func(b []byte) [][]byte {
			list, _ := All(b)
			return list
		},
		"Whole": func(b []byte) [][]byte {
			list, _ := Whole(b)
			return list
		},
	}
}

// R3: the data that are answered are the caller's own, each apart from the others, and bytes that are changed change none of them.
func TestTheDataAreTheCallersOwn(t *testing.T) {
	for name, read := range readers() {
		b := several(t, []byte("abc"), someBytes(130, 1), nil, []byte("abc"))
		kept := bytes.Clone(b)
		want := read(bytes.Clone(b))
		for i := range want {
			first, second := read(b), read(b)
			fill(second[i])
			_ = append(second[i], 0xdd, 0xdd, 0xdd)
			if !bytes.Equal(b, kept) {
				t.Fatalf("%s: changed data changed the bytes they came from", name)
			}
			if !slices.EqualFunc(first, want, bytes.Equal) {
				t.Fatalf("%s: changed data changed another answer", name)
			}
			if !slices.EqualFunc(second[:i], want[:i], bytes.Equal) || !slices.EqualFunc(second[i+1:], want[i+1:], bytes.Equal) {
				t.Fatalf("%s: changed data changed others of the same answer", name)
			}
		}
		first := read(b)
		fill(b)
		if !slices.EqualFunc(first, want, bytes.Equal) {
			t.Errorf("%s: changed bytes changed the data that came from them", name)
		}
	}
}

// R5: asked again, whatever was asked between, the answers are the same.
func TestNothingIsKept(t *testing.T) {
	b := several(t, []byte("abc"), nil)
	for _, between := range []string{"", "80", "81 00", "81 80 40", "00*5", "00 51 53 7d 52"} {
		other := unhex(t, between)
		Encode(other)
		Decode(other)
		All(other)
		Whole(other)
		wantAll(t, b, [][]byte{[]byte("abc"), {}}, api.OK)
		wantWhole(t, b[:12], [][]byte{[]byte("abc")}, 8)
		if !bytes.Equal(encode(t, []byte("abc")), b[:8]) {
			t.Errorf("Encode is another one behind %q", between)
		}
	}
}

// R1: great bytes that are no frames, and many frames, end.
func TestGreatBytes(t *testing.T) {
	wantError(t, bytes.Repeat([]byte{0xff}, 1<<22), api.ErrForm)
	wantAll(t, bytes.Repeat([]byte{0xff}, 1<<22), nil, api.ErrForm)
	wantWhole(t, make([]byte, 1<<22), nil, 0)
	many := bytes.Repeat(encode(t, nil), 20000)
	if list, err := All(many); err != api.OK || len(list) != 20000 {
		t.Error(len(list), err)
	}
	if list, n := Whole(many[:len(many)-1]); len(list) != 19999 || n != len(many)-5 {
		t.Error(len(list), n)
	}
}
