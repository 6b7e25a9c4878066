package crc

import (
	"bytes"
	"hash/crc32"
	"math"
	"slices"
	"testing"
)

// plainEntry is the chapter's P2.1, word by word.
func plainEntry(c int) uint32 {
	x := c
	for i := 0; i < 8; i++ {
		if x%2 == 0 {
			x = x / 2
		} else {
			x = (x / 2) ^ 0x82f63b78
		}
	}
	return uint32(x)
}

// plainMore is the chapter's P2.2, word by word, with wide numbers and entries of its own.
func plainMore(sum uint32, b []byte) uint32 {
	x := math.MaxUint32 - uint64(sum)
	for _, c := range b {
		x = uint64(plainEntry(int((x^uint64(c))%256))) ^ x/256
	}
	return uint32(math.MaxUint32 - x)
}

// someBytes are n bytes that look like chance, the same ones for one seed.
func someBytes(n int, seed uint32) []byte {
	out := make([]byte, n)
	for i := range out {
		seed = 1664525*seed + 1013904223
		out[i] = byte(seed >> 24)
	}
	return out
}

// texts are bytes of many lengths: none, one of each value, noughts, ones, and mixed ones.
func texts() [][]byte {
	out := [][]byte{nil, {}, []byte("123456789"), []byte("The sum of bytes")}
	for c := range 256 {
		out = append(out, []byte{byte(c)})
	}
	for _, n := range []int{1, 2, 3, 4, 5, 7, 8, 9, 31, 32, 33, 63, 64, 65, 255, 256, 257, 1000, 4096} {
		out = append(out, make([]byte, n), bytes.Repeat([]byte{0xff}, n), someBytes(n, uint32(n)))
	}
	return out
}

// sums are those handed to More: the least, the greatest, and around each power of two.
func sums() []uint32 {
	out := []uint32{0, math.MaxUint32, math.MaxUint32 - 1, 0xe3069283, 0x12345678}
	for shift := range 32 {
		out = append(out, 1<<shift, 1<<shift-1, ^uint32(1<<shift))
	}
	return out
}

// turn is b with these bits turned; bit 0 is the lowest one of the first byte.
func turn(b []byte, bits ...int) []byte {
	out := slices.Clone(b)
	for _, bit := range bits {
		out[bit/8] ^= 1 << (bit % 8)
	}
	return out
}

// P2.1: each entry is what the chapter's words make of its byte.
func TestTableByItsWords(t *testing.T) {
	table := Table()
	for c := range 256 {
		if table[c] != plainEntry(c) {
			t.Errorf("entry %d: %08x, not %08x", c, table[c], plainEntry(c))
		}
	}
}

// P2.1: entries known from elsewhere, at both ends and between; all of them are those of CRC-32C.
func TestTableKnownEntries(t *testing.T) {
	table := Table()
	for c, x := range map[int]uint32{0: 0, 1: 0xf26b8303, 2: 0xe13b70f7, 3: 0x1350f3f4, 128: 0x82f63b78, 255: 0xad7d5351} {
		if table[c] != x {
			t.Errorf("entry %d: %08x, not %08x", c, table[c], x)
		}
	}
	if table != [256]uint32(*crc32.MakeTable(crc32.Castagnoli)) {
		t.Error("the table is not that of CRC-32C")
	}
}

// R3: a Table that a caller has changed changes no later answer.
func TestTableIsTheCallersOwn(t *testing.T) {
	b := []byte("123456789")
	first := Table()
	kept := first
	for c := range first {
		first[c] = ^first[c]
	}
	if Table() != kept {
		t.Error("a changed Table changed the next one")
	}
	if Sum(b) != 0xe3069283 || More(Sum(b[:4]), b[4:]) != 0xe3069283 {
		t.Error("a changed Table changed a sum")
	}
}

// P2.2: the chapter's examples, and sums known from elsewhere.
func TestSumExamples(t *testing.T) {
	rising := make([]byte, 32)
	for i := range rising {
		rising[i] = byte(i)
	}
	for _, c := range []struct {
		b   []byte
		sum uint32
	}{
		{[]byte("123456789"), 0xe3069283},
		{nil, 0},
		{[]byte{}, 0},
		{[]byte{0}, 0x527d5351},
		{[]byte{0xff}, 0xff000000},
		{[]byte("a"), 0xc1d04330},
		{make([]byte, 32), 0x8a9136aa},
		{bytes.Repeat([]byte{0xff}, 32), 0x62a8ab43},
		{rising, 0x46dd794e},
	} {
		if Sum(c.b) != c.sum {
			t.Errorf("Sum(% x): %08x, not %08x", c.b, Sum(c.b), c.sum)
		}
	}
}

// P2.2: More by the chapter's words, from every kind of sum and with every kind of bytes; Sum is More of 0.
func TestMoreByItsWords(t *testing.T) {
	for _, b := range texts() {
		for _, sum := range sums() {
			if got, want := More(sum, b), plainMore(sum, b); got != want {
				t.Fatalf("More(%08x, % x): %08x, not %08x", sum, b, got, want)
			}
		}
		if Sum(b) != plainMore(0, b) || Sum(b) != More(0, b) {
			t.Fatalf("Sum(% x): %08x, not %08x", b, Sum(b), plainMore(0, b))
		}
	}
}

// P2.2: with no bytes, the sum stays as it is, the least and the greatest one too.
func TestMoreOfNothing(t *testing.T) {
	for _, sum := range sums() {
		if More(sum, nil) != sum || More(sum, []byte{}) != sum {
			t.Errorf("More(%08x) of nothing: %08x, %08x", sum, More(sum, nil), More(sum, []byte{}))
		}
	}
}

// P2.3: bytes cut at every place and gone on with, in two pieces, in three, and byte by byte.
func TestMoreGoesOn(t *testing.T) {
	for _, b := range texts() {
		whole := Sum(b)
		one := uint32(0)
		for i := range len(b) + 1 {
			if More(Sum(b[:i]), b[i:]) != whole {
				t.Fatalf("% x, cut at %d: %08x, not %08x", b, i, More(Sum(b[:i]), b[i:]), whole)
			}
			if i < len(b) {
				one = More(one, b[i:i+1])
			}
		}
		if one != whole {
			t.Fatalf("% x, byte by byte: %08x, not %08x", b, one, whole)
		}
	}
	b := someBytes(40, 1)
	for i := range len(b) + 1 {
		for j := i; j <= len(b); j++ {
			if More(More(Sum(b[:i]), b[i:j]), b[j:]) != Sum(b) {
				t.Fatalf("% x, cut at %d and %d", b, i, j)
			}
		}
	}
}

// turnable are bytes long enough to turn bits in.
func turnable() [][]byte {
	return [][]byte{[]byte("12345"), []byte("123456789"), make([]byte, 12), bytes.Repeat([]byte{0xff}, 12), someBytes(24, 7)}
}

// P2.3: bits turned within 32 in a row, at every place, the first and the last one and across bytes among them.
func TestSumTellsBitsCloseToEachOther(t *testing.T) {
	masks := []uint32{1<<31 | 1, math.MaxUint32, 0x80000003, 0x82f63b79, 0xedb88321}
	for width := range 32 {
		masks = append(masks, 1<<width, 1<<width|1, 1<<width-1|1<<width)
	}
	for seed := range 60 {
		c := someBytes(4, uint32(seed))
		masks = append(masks, uint32(c[0])|uint32(c[1])<<8|uint32(c[2])<<16|uint32(c[3])<<24|1)
	}
	for _, b := range turnable() {
		for _, mask := range masks {
			var bits []int
			for i := range 32 {
				if mask>>i&1 == 1 {
					bits = append(bits, i)
				}
			}
			for at := 0; at+bits[len(bits)-1] < 8*len(b); at++ {
				moved := slices.Clone(bits)
				for i := range moved {
					moved[i] += at
				}
				if Sum(turn(b, moved...)) == Sum(b) {
					t.Fatalf("% x with the bits %v turned has the same sum", b, moved)
				}
			}
		}
	}
}

// P2.3: one bit anywhere, and three bits anywhere.
func TestSumTellsOneAndThreeBits(t *testing.T) {
	for _, b := range turnable()[:3] {
		n := 8 * len(b)
		for i := range n {
			if Sum(turn(b, i)) == Sum(b) {
				t.Fatalf("% x with bit %d turned has the same sum", b, i)
			}
			for j := range i {
				for k := range j {
					if Sum(turn(b, i, j, k)) == Sum(b) {
						t.Fatalf("% x with the bits %d, %d, %d turned has the same sum", b, k, j, i)
					}
				}
			}
		}
	}
}

// P2.3: any odd number of bits, far from each other too.
func TestSumTellsOddNumbersOfBits(t *testing.T) {
	for seed := range 400 {
		b := someBytes(200, uint32(seed))
		c := someBytes(200, uint32(seed+1000))
		turned := 0
		for i := range b {
			for bit := range 8 {
				if (b[i]^c[i])>>bit&1 == 1 {
					turned++
				}
			}
		}
		if turned%2 == 0 {
			c[seed%len(c)] ^= 1 << (seed % 8)
		}
		if Sum(b) == Sum(c) {
			t.Fatalf("seed %d: an odd number of bits turned, and the same sum", seed)
		}
	}
}

// R3: what is handed in stays as it was, also behind its end. R5: asked again, the answers are the same.
func TestBytesStayAsTheyWere(t *testing.T) {
	room := someBytes(300, 3)
	kept := slices.Clone(room)
	for n := range 200 {
		sum, more := Sum(room[:n]), More(math.MaxUint32, room[:n])
		if !bytes.Equal(room, kept) {
			t.Fatalf("a sum of %d bytes changed them", n)
		}
		if Sum(kept[:n]) != sum || More(math.MaxUint32, kept[:n]) != more {
			t.Fatalf("the sum of %d bytes changed from one call to the next", n)
		}
	}
}
