package schema

import (
	"math"
	"math/rand/v2"
	"slices"
	"strings"

	"ferryman/api"
	"ferryman/codec"
	"ferryman/num"
	"ferryman/objs"
)

const (
	topNumber = 1<<62 - 1 // of Index and Seq
	topResp   = 1 << 50
)

// plainFields are the fields of a version, as the chapter lists them.
func plainFields(version int) []int {
	return map[int][]int{1: {1, 2, 4}, 2: {1, 2, 3, 4}, 3: {1, 2, 3, 4, 5}}[version]
}

// plainField is the number and the value of one field, of a record whose numbers can be told.
func plainField(field int, r api.Record) string {
	op := slices.Concat(num.Put(nil, r.Op.Code), num.PutSigned(nil, r.Op.A), num.PutSigned(nil, r.Op.B))
	values := [][]byte{1: num.Put(nil, r.Index), num.Put(nil, r.Proc), num.Put(nil, r.Seq), op, num.PutSigned(nil, r.Resp)}
	return put(field) + string(values[field])
}

// plainEncode is the chapter's P6.2, also of a record that does not fit.
func plainEncode(version int, r api.Record) string {
	out := put(version)
	for _, field := range plainFields(version) {
		out += plainField(field, r)
	}
	return out
}

func put(n int) string { return string(num.Put(nil, n)) }

// plainUpgrade is the chapter's P6.1.
func plainUpgrade(version int, r api.Record) api.Record {
	switch version {
	case 1:
		return api.Record{Index: r.Index, Proc: r.Proc, Op: r.Op}
	case 2:
		return api.Record{Index: r.Index, Proc: r.Proc, Seq: r.Seq, Op: r.Op}
	}
	return r
}

// plainFits is the chapter's P6.1.
func plainFits(r api.Record) bool {
	number := r.Index >= 0 && r.Index < 1<<62 && r.Seq >= 0 && r.Seq < 1<<62
	return number && r.Proc >= 0 && r.Proc <= 64 && objs.Fits(r.Op) && r.Resp >= -1<<50 && r.Resp <= 1<<50
}

// cut is the number that b begins with, what stands behind it, and whether it is there.
func cut(b string, get func(b []byte) (int, int)) (int, string, bool) {
	n, size := get([]byte(b))
	return n, b[size:], size > 0
}

// plainDecode is the chapter's P6.3.
func plainDecode(b string) (api.Record, api.Errno) {
	if b == "" {
		return api.Record{}, api.ErrMore
	}
	version, rest, there := cut(b, num.Get)
	if !there {
		return api.Record{}, api.ErrForm
	}
	if version < 1 || version > 3 {
		return api.Record{}, api.ErrVersion
	}
	values := map[int]int{}
	var op api.Op
	var read []int
	for rest != "" {
		var field int
		field, rest, there = cut(rest, num.Get)
		if !there || len(read) > 0 && field <= read[len(read)-1] {
			return api.Record{}, api.ErrForm
		}
		read = append(read, field)
		passed := field >= 16 && version != 3
		if !passed && !slices.Contains(plainFields(version), field) {
			return api.Record{}, api.ErrField
		}
		switch {
		case passed:
			var length int
			length, rest, there = cut(rest, num.Get)
			if there = there && length <= len(rest); there {
				rest = rest[length:]
			}
		case field == 4:
			var size int
			op, size = codec.GetOp([]byte(rest))
			rest, there = rest[size:], size > 0
		case field == 5:
			values[field], rest, there = cut(rest, num.GetSigned)
		default:
			values[field], rest, there = cut(rest, num.Get)
		}
		if !there {
			return api.Record{}, api.ErrForm
		}
	}
	for _, field := range plainFields(version) {
		if !slices.Contains(read, field) {
			return api.Record{}, api.ErrField
		}
	}
	r := api.Record{Index: values[1], Proc: values[2], Seq: values[3], Op: op, Resp: values[5]}
	if !plainFits(r) {
		return api.Record{}, api.ErrArg
	}
	return r, api.OK
}

// some is a record each of whose numbers is another one.
func some() api.Record {
	return api.Record{Index: 5, Proc: 2, Seq: 7, Op: api.Op{Code: api.Put, A: -3, B: 300}, Resp: -1}
}

// changed are some, with one change each.
func changed(numbers []int, change func(r *api.Record, n int)) []api.Record {
	var out []api.Record
	for _, n := range numbers {
		r := some()
		change(&r, n)
		out = append(out, r)
	}
	return out
}

func setIndex(r *api.Record, n int) { r.Index = n }
func setProc(r *api.Record, n int)  { r.Proc = n }
func setSeq(r *api.Record, n int)   { r.Seq = n }
func setResp(r *api.Record, n int)  { r.Resp = n }
func setCode(r *api.Record, n int)  { r.Op.Code = n }
func setA(r *api.Record, n int)     { r.Op.A = n }
func setB(r *api.Record, n int)     { r.Op.B = n }

// goodRecords fit: each number at its edges, and where its bytes become more.
func goodRecords() []api.Record {
	numbers := []int{0, 1, 127, 128, 16383, 16384, 1 << 32, topNumber - 1, topNumber}
	signed := []int{0, 1, -1, 63, 64, -64, -65, 1 << 32}
	ops := append(signed, -api.MaxValue, api.MaxValue)
	top := api.Record{Index: topNumber, Proc: 64, Seq: topNumber, Op: api.Op{Code: api.Seal, A: api.MaxValue, B: api.MaxValue}, Resp: topResp}
	least := api.Record{Op: api.Op{A: -api.MaxValue, B: -api.MaxValue}, Resp: -topResp}
	return slices.Concat(
		[]api.Record{{}, some(), top, least},
		changed(numbers, setIndex), changed(numbers, setSeq),
		changed([]int{0, 1, 2, 63, 64}, setProc),
		changed([]int{0, 1, 2, 3, 4, 5, 6, 7, 8, 9, 10}, setCode), changed(ops, setA), changed(ops, setB),
		changed(append(signed, -topResp, -topResp+1, topResp-1, topResp), setResp),
	)
}

// wrongRecords do not fit, by one number; bytes can tell those of told.
func wrongRecords() (told, untold []api.Record) {
	below := []int{math.MinInt, -1 << 62, -2, -1}
	beyond := []int{1 << 62, 1<<62 + 1, math.MaxInt}
	ops := []int{math.MinInt, -api.MaxValue - 1, api.MaxValue + 1, math.MaxInt}
	told = slices.Concat(
		changed([]int{65, 66, 127, 128, 129, 256, 1 << 32, 1<<32 + 1, topNumber}, setProc),
		changed([]int{math.MinInt, -1 << 62, -topResp - 2, -topResp - 1, topResp + 1, topResp + 2, 1 << 62, math.MaxInt}, setResp),
	)
	untold = slices.Concat(
		changed(below, setIndex), changed(beyond, setIndex), changed(below, setProc), changed(beyond, setProc),
		changed(below, setSeq), changed(beyond, setSeq), changed(append(below, 11, 12, 256, 1<<32, topNumber), setCode), changed(beyond, setCode),
		changed(ops, setA), changed(ops, setB),
	)
	return told, untold
}

// noNumbers are bytes that begin with no number of Get, whatever stands behind them.
func noNumbers() []string {
	return []string{"\x80\x00", "\xff\x80\x00", strings.Repeat("\x80", 8) + "\x40", strings.Repeat("\x80", 9) + "\x01", strings.Repeat("\xff", 11)}
}

// pieces are fields, whole ones and others, to be laid one behind the other.
func pieces() []string {
	wrong := api.Record{Proc: 65, Op: api.Op{Code: 11}, Resp: topResp + 1}
	return []string{
		"\x01\x05", "\x02\x02", "\x03\x07", "\x04\x01\x06\x00", "\x05\x01",
		plainField(2, wrong), plainField(4, wrong), plainField(5, wrong),
		"\x00\x00", "\x06\x00", "\x0f\x00", "\x10\x00", "\x10\x02ab", "\x11\x03\x02\x02\x04", "\x80\x01\x01\xff",
		"\x01\x80", "\x10\x80\x00", "\x04\x00\x00", "\x80",
	}
}

// laid hands out all rows of up to most pieces, in every version and in two that there are not.
func laid(most int, each func(b string)) {
	row := make([]string, most)
	var lay func(count int)
	lay = func(count int) {
		for version := range 5 {
			each(put(version) + strings.Join(row[:count], ""))
		}
		if count == most {
			return
		}
		for _, piece := range pieces() {
			row[count] = piece
			lay(count + 1)
		}
	}
	lay(0)
}

// spoiled hands out bytes of records, and those with something changed, left out, or put in.
func spoiled(each func(b string)) {
	told, _ := wrongRecords()
	few := []byte{0, 1, 2, 3, 4, 5, 6, 15, 16, 17, 64, 65, 127, 128, 255}
	chance := rand.New(rand.NewPCG(6, 6)) // the same numbers in every run
	for _, r := range slices.Concat(goodRecords(), told) {
		for version := 1; version <= 3; version++ {
			whole := plainEncode(version, r)
			each(whole)
			for range 60 {
				b := []byte(whole)
				b[chance.IntN(len(b))] ^= 1 << chance.IntN(8)
				each(string(b))
				b[chance.IntN(len(b))] = few[chance.IntN(len(few))]
				each(string(b))
				at := chance.IntN(len(b))
				each(string(slices.Delete(slices.Clone(b), at, at+1)))
				each(string(slices.Insert(b, at, few[chance.IntN(len(few))])))
			}
		}
	}
}
