package delta

import (
	"ferryman/api"
	"ferryman/num"
)

// mostMid is how many numbers Mid may have: as many as a state of whatever kind, a key and a number for each element.
const mostMid = 2 * api.MaxLen

// dataOf is what the frame of a delta that may be holds.
func dataOf(d api.Delta) []byte {
	out := putAll(nil, num.Put, d.From, d.To, d.Ahead, d.Behind, len(d.Mid))
	out = putAll(out, num.PutSigned, d.Mid...)
	out = putAll(out, num.Put, sealNumber(d), len(d.Table))
	for _, e := range d.Table {
		out = putAll(out, num.Put, e.Proc, e.Seq)
		out = putAll(out, num.PutSigned, e.Resp)
	}
	return out
}

// readData is the delta that data tell, also one that may not be; false: they tell none.
func readData(data []byte) (api.Delta, bool) {
	var d api.Delta
	var count, seal, entries int
	read, left := numbers(data)
	// The count is looked at ahead of the numbers, so that it takes no memory alone.
	if !read(num.Get, &d.From, &d.To, &d.Ahead, &d.Behind, &count) || count > mostMid {
		return api.Delta{}, false
	}
	d.Mid = make([]int, count)
	for i := range d.Mid {
		if !read(num.GetSigned, &d.Mid[i]) {
			return api.Delta{}, false
		}
	}
	if !read(num.Get, &seal, &entries) || seal > api.Engines {
		return api.Delta{}, false
	}
	d.Sealed, d.Engine = seal > 0, max(0, seal-1)
	there := true
	// The table grows with the bytes that are there, for the same reason.
	for there && len(d.Table) < entries {
		var e api.Entry
		there = read(num.Get, &e.Proc, &e.Seq) && read(num.GetSigned, &e.Resp)
		d.Table = append(d.Table, e)
	}
	return d, there && left() == 0
}

// putAll puts numbers behind b, by one of num's two ways to put.
func putAll(b []byte, put func(b []byte, n int) []byte, numbers ...int) []byte {
	for _, n := range numbers {
		b = append(b, put(nil, n)...)
	}
	return b
}

// numbers reads b: read lays the next numbers, by a getter of num, into places, and is whether all are there; left is how many bytes stand behind those that were read.
func numbers(b []byte) (read func(get func(b []byte) (int, int), places ...*int) bool, left func() int) {
	read = func(get func(b []byte) (int, int), places ...*int) bool {
		for _, place := range places {
			n, size := get(b)
			if size == 0 {
				return false
			}
			*place, b = n, b[size:]
		}
		return true
	}
	left = func() int { return len(b) }
	return read, left
}

// sealNumber tells in one number whether a delta is sealed, and for which engine.
func sealNumber(d api.Delta) int {
	if !d.Sealed {
		return 0
	}
	return d.Engine + 1
}
