package block

import (
	"math"
	"math/big"
	"math/rand/v2"
	"slices"
	"strings"

	"ferryman/api"
	"ferryman/num"
	"ferryman/schema"
)

const (
	topNumber = 1<<62 - 1 // of Index and Seq
	topResp   = 1 << 50
	mostBlock = 256
)

func put(n int) string       { return string(num.Put(nil, n)) }
func putSigned(n int) string { return string(num.PutSigned(nil, n)) }

// plainFits is the chapter's P7.1.
func plainFits(l []api.Record) bool {
	for i, r := range l {
		if !schema.Fits(r) || i > 0 && r.Index-1 != l[i-1].Index {
			return false
		}
	}
	return len(l) >= 1 && len(l) <= 256
}

// plainSeqAhead is the Seq of the last record of l that has that Proc, or 0.
func plainSeqAhead(l []api.Record, proc int) int {
	for _, r := range slices.Backward(l) {
		if r.Proc == proc {
			return r.Seq
		}
	}
	return 0
}

// plainRecord is what the chapter's P7.2 tells of a record, with that number for its Seq.
func plainRecord(r api.Record, seq int) string {
	return put(r.Proc) + putSigned(seq) + put(r.Op.Code) + putSigned(r.Op.A) + putSigned(r.Op.B) + putSigned(r.Resp)
}

// plainRecords is what stands behind the count.
func plainRecords(l []api.Record) string {
	var out strings.Builder
	for i, r := range l {
		out.WriteString(plainRecord(r, r.Seq-plainSeqAhead(l[:i], r.Proc)))
	}
	return out.String()
}

// plainEncode is the chapter's P7.2, also of records that do not fit.
func plainEncode(l []api.Record) string {
	return put(l[0].Index) + put(len(l)) + plainRecords(l)
}

// plainDecode is the chapter's P7.3: the numbers are read as they come, and then held against what they would be encoded as.
func plainDecode(b string) ([]api.Record, bool) {
	left, whole := []byte(b), true
	next := func(get func(b []byte) (int, int)) int {
		n, size := get(left)
		left, whole = left[size:], whole && size > 0
		return n
	}
	first, count := next(num.Get), next(num.Get)
	if !whole || count < 1 || count > 256 {
		return nil, false
	}
	var l []api.Record
	for i := range count {
		r := api.Record{Index: first + i, Proc: next(num.Get)}
		seq := new(big.Int).Add(big.NewInt(int64(plainSeqAhead(l, r.Proc))), big.NewInt(int64(next(num.GetSigned))))
		r.Op.Code, r.Op.A, r.Op.B = next(num.Get), next(num.GetSigned), next(num.GetSigned)
		r.Resp = next(num.GetSigned)
		if !whole || seq.Sign() < 0 || seq.BitLen() > 62 {
			return nil, false
		}
		r.Seq = int(seq.Int64())
		l = append(l, r)
	}
	if !plainFits(l) || plainEncode(l) != b {
		return nil, false
	}
	return l, true
}

// some is a record each of whose numbers is another one.
func some() api.Record {
	return api.Record{Index: 5, Proc: 2, Seq: 7, Op: api.Op{Code: api.Put, A: -3, B: 300}, Resp: -1}
}

// row is count records from first on, of one process, whose Seqs rise by one.
func row(first, count int) []api.Record {
	var out []api.Record
	for i := range count {
		r := some()
		r.Index, r.Seq = first+i, i+1
		out = append(out, r)
	}
	return out
}

// ofSeqs is a record of one process for each Seq.
func ofSeqs(proc int, seqs ...int) []api.Record {
	out := row(9, len(seqs))
	for i, seq := range seqs {
		out[i].Proc, out[i].Seq = proc, seq
	}
	return out
}

// ofProcs is a record for each process; the Seqs of one rise by one, and each begins elsewhere.
func ofProcs(procs ...int) []api.Record {
	out := row(1000, len(procs))
	for i, proc := range procs {
		out[i].Proc, out[i].Seq = proc, 1000*proc
		for _, r := range out[:i] {
			if r.Proc == proc {
				out[i].Seq++
			}
		}
	}
	return out
}

// changed are a record each, by one change of some.
func changed(numbers []int, change func(r *api.Record, n int)) []api.Record {
	var out []api.Record
	for _, n := range numbers {
		r := some()
		change(&r, n)
		out = append(out, r)
	}
	return out
}

func setIndex(r *api.Record, n int) { r.Index = n }
func setProc(r *api.Record, n int)  { r.Proc = n }
func setSeq(r *api.Record, n int)   { r.Seq = n }
func setResp(r *api.Record, n int)  { r.Resp = n }
func setCode(r *api.Record, n int)  { r.Op.Code = n }
func setA(r *api.Record, n int)     { r.Op.A = n }
func setB(r *api.Record, n int)     { r.Op.B = n }

// goodRecords fit: each number at its edges, and where its bytes become more; all have index 5.
func goodRecords() []api.Record {
	signed := []int{0, 1, -1, 63, 64, -64, -65, 1 << 32}
	ops := append(slices.Clone(signed), -api.MaxValue, api.MaxValue)
	return slices.Concat(
		[]api.Record{some(), {Index: 5}},
		changed([]int{0, 1, 63, 64, 127, 128, 16384, topNumber - 1, topNumber}, setSeq),
		changed([]int{0, 1, 63, 64}, setProc),
		changed([]int{0, 1, 2, 3, 4, 5, 6, 7, 8, 9, 10}, setCode), changed(ops, setA), changed(ops, setB),
		changed(append(signed, -topResp, -topResp+1, topResp-1, topResp), setResp),
	)
}

// goodBlocks fit.
func goodBlocks() [][]api.Record {
	out := [][]api.Record{
		{{Index: 7, Proc: 1, Seq: 5}, {Index: 8, Proc: 1, Seq: 6}},
		row(0, 1), row(0, 2), row(0, 16), row(126, 4), row(3, 127), row(3, 128), row(3, 255), row(3, mostBlock),
		row(topNumber, 1), row(topNumber-1, 2), row(topNumber-mostBlock+1, mostBlock),
		ofSeqs(0, 5, 6, 7), ofSeqs(64, 5, 5, 5), ofSeqs(1, 7, 6, 5, 0), ofSeqs(3, 0, topNumber, 0, topNumber, topNumber, 1),
		ofSeqs(3, topNumber-1, topNumber), ofSeqs(0, 0, 64, 0, 63, 0),
		ofProcs(0, 64, 0, 64, 64, 0), ofProcs(1, 2, 3, 1, 2, 3, 3, 2, 1), ofProcs(2, 2, 1, 2), ofProcs(5, 6, 7),
	}
	all := row(77, mostBlock)
	for i := range all {
		all[i].Proc = i * 7 % 65
		all[i].Seq = i * i
		all[i].Op.Code = i % 11
	}
	out = append(out, all)
	mixed := goodRecords()
	for i := range mixed {
		mixed[i].Index = i
	}
	out = append(out, mixed)
	for _, r := range goodRecords() {
		out = append(out, []api.Record{r})
	}
	return out
}

// wrongRecords do not fit, by one number; bytes can tell those of told.
func wrongRecords() (told, untold []api.Record) {
	below := []int{math.MinInt, -1 << 62, -2, -1}
	beyond := []int{1 << 62, 1<<62 + 1, math.MaxInt}
	ops := []int{math.MinInt, -api.MaxValue - 1, api.MaxValue + 1, math.MaxInt}
	told = slices.Concat(
		changed([]int{65, 66, 127, 128, 129, 256, 1 << 32, 1<<32 + 1, topNumber}, setProc),
		changed(below, setSeq), changed(beyond, setSeq),
		changed([]int{11, 12, 127, 128, 256, 1 << 32, topNumber}, setCode), changed(ops, setA), changed(ops, setB),
		changed([]int{math.MinInt, -1 << 62, -topResp - 2, -topResp - 1, topResp + 1, topResp + 2, 1 << 62, math.MaxInt}, setResp),
	)
	untold = slices.Concat(
		changed(below, setIndex), changed(beyond, setIndex), changed(below, setProc), changed(beyond, setProc),
		changed(below, setCode), changed(beyond, setCode),
	)
	return told, untold
}

// noNumbers are bytes that begin with no number of Get, whatever stands behind them.
func noNumbers() []string {
	return []string{"\x80\x00", "\xff\x80\x00", strings.Repeat("\x80", 8) + "\x40", strings.Repeat("\x80", 9) + "\x01", strings.Repeat("\xff", 11)}
}

// noSigned are bytes that begin with no number of GetSigned, whatever stands behind them.
func noSigned() []string {
	return []string{"\x80\x00", "\xff\x80\x00", strings.Repeat("\x80", 9) + "\x00", strings.Repeat("\x80", 9) + "\x02", strings.Repeat("\xff", 11)}
}

// pieces are the bytes of records, whole ones and others, to be laid one behind the other.
func pieces() []string {
	return []string{
		plainRecord(api.Record{}, 0), plainRecord(api.Record{Proc: 1}, 1), plainRecord(api.Record{Proc: 1}, -1),
		plainRecord(api.Record{Proc: 64}, topNumber), plainRecord(api.Record{Proc: 64}, -topNumber), plainRecord(api.Record{Proc: 64}, math.MaxInt),
		plainRecord(api.Record{Proc: 65}, 1), plainRecord(api.Record{Op: api.Op{Code: api.Seal, A: -5}, Resp: topResp}, 3),
		plainRecord(api.Record{Resp: topResp + 1}, 0), plainRecord(api.Record{Op: api.Op{Code: 11}}, 0),
		"\x00", "\x80", "\x01\x80\x00\x00\x00\x00\x00",
	}
}

// laid hands out all rows of up to most pieces, behind counts that are right and others.
func laid(most int, each func(b string)) {
	chosen := make([]string, most)
	var lay func(count int)
	lay = func(count int) {
		for _, head := range []string{put(3) + put(count), put(topNumber) + put(count), put(topNumber-2) + put(count), put(0) + put(count+1), put(0) + put(max(0, count-1))} {
			each(head + strings.Join(chosen[:count], ""))
		}
		if count == most {
			return
		}
		for _, piece := range pieces() {
			chosen[count] = piece
			lay(count + 1)
		}
	}
	lay(0)
}

// spoiled hands out the bytes of blocks, and those with something changed, left out, or put in.
func spoiled(each func(b string)) {
	few := []byte{0, 1, 2, 3, 4, 10, 11, 64, 65, 127, 128, 129, 255}
	chance := rand.New(rand.NewPCG(7, 7)) // the same numbers in every run
	for _, l := range goodBlocks() {
		whole := plainEncode(l)
		each(whole)
		for range 60 {
			b := []byte(whole)
			b[chance.IntN(len(b))] ^= 1 << chance.IntN(8)
			each(string(b))
			b[chance.IntN(len(b))] = few[chance.IntN(len(few))]
			each(string(b))
			at := chance.IntN(len(b))
			each(string(slices.Delete(slices.Clone(b), at, at+1)))
			each(string(slices.Insert(b, at, few[chance.IntN(len(few))])))
		}
	}
}
