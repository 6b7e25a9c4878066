// Package num is layer 1: numbers as bytes. See shared/doc/01-num.md.
package num

import "ferryman/api"

const (
	groupBits  = 7
	more       = 1 << groupBits // what every group but the last one has more
	mostGroups = 10             // of 64 bits
	lastGroup  = 1              // the tenth of ten: one bit is left for it
)

// Put puts a number behind bytes, Get is the one that bytes begin with, and how many they are; 0: there is none.
func Put(b []byte, n int) []byte {
	if n < 0 || n >= api.MaxNum {
		return own(b)
	}
	return putGroups(b, uint64(n))
}

func Get(b []byte) (int, int) {
	u, k := getGroups(b)
	if u >= api.MaxNum {
		return 0, 0
	}
	return int(u), k
}

// PutSigned and GetSigned are the same of numbers below nought.
func PutSigned(b []byte, n int) []byte { return putGroups(b, Zig(n)) }

func GetSigned(b []byte) (int, int) {
	u, k := getGroups(b)
	return Zag(u), k
}

// Fixed32 and Fixed64 are numbers as four and eight bytes, the lowest first; Fixed is the number of some.
func Fixed32(n uint32) []byte { return lowest(uint64(n), 4) }

func Fixed64(n uint64) []byte { return lowest(n, 8) }

func Fixed(b []byte) uint64 {
	var n uint64
	for i := range min(len(b), 8) {
		n |= uint64(b[i]) << (8 * i)
	}
	return n
}

// Zig is a number as one that is not below nought, Zag is it back.
func Zig(n int) uint64 {
	// The signed shift makes all bits ones below nought: turning the bits of 2 n is then -2 n - 1.
	return uint64(n)<<1 ^ uint64(n>>63)
}

func Zag(u uint64) int { return int(u>>1) ^ -int(u&1) }

// own leaves room for groups, so that putting them behind takes no second copy.
func own(b []byte) []byte {
	return append(make([]byte, 0, len(b)+mostGroups), b...)
}

func putGroups(b []byte, u uint64) []byte {
	out := own(b)
	for u >= more {
		out = append(out, byte(u)|more)
		u >>= groupBits
	}
	return append(out, byte(u))
}

// getGroups is the number of 64 bits whose groups b begins with, and how many they are; 0 and 0, if there is none.
func getGroups(b []byte) (uint64, int) {
	k := countGroups(b)
	switch {
	case k == 0:
		fallthrough
	case k == mostGroups && b[k-1] != lastGroup:
		fallthrough
	case k > 1 && b[k-1] == 0:
		return 0, 0
	}
	var u uint64
	for i := range k {
		u |= uint64(b[i]%more) << (groupBits * i)
	}
	return u, k
}

// countGroups looks at no more than ten bytes, so that a long b costs no more than a short one; 0: the last one lacks, or is beyond them.
func countGroups(b []byte) int {
	for i := range min(len(b), mostGroups) {
		if b[i] < more {
			return i + 1
		}
	}
	return 0
}

func lowest(n uint64, count int) []byte {
	out := make([]byte, count)
	for i := range out {
		out[i] = byte(n >> (8 * i))
	}
	return out
}
