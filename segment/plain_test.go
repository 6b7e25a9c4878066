package segment

import (
	"math"
	"math/rand/v2"
	"slices"
	"strings"

	"ferryman/api"
	"ferryman/block"
	"ferryman/frame"
	"ferryman/num"
	"ferryman/schema"
)

const (
	topNumber = 1<<62 - 1 // of Index, Seq and First
	topResp   = 1 << 50
	most      = 4096
)

func put(n int) string       { return string(num.Put(nil, n)) }
func putSigned(n int) string { return string(num.PutSigned(nil, n)) }

// framed is the frame of data.
func framed(data string) string {
	b, err := frame.Encode([]byte(data))
	if err != api.OK {
		panic("no frame")
	}
	return string(b)
}

// joined are the frames of data, one behind the other.
func joined(parts ...string) string {
	var out strings.Builder
	for _, data := range parts {
		out.WriteString(framed(data))
	}
	return out.String()
}

// plainHead is the chapter's head, also one that may not be.
func plainHead(version, kind, first int) string {
	return "\x6c" + put(version) + put(kind) + put(first)
}

// plainBlock is the data of one block, of records that each fit; in version 3 up to 256 of them, which must go on.
func plainBlock(version int, l []api.Record) string {
	if version == 3 {
		b, err := block.Encode(l)
		if err != api.OK {
			panic("no block")
		}
		return string(b)
	}
	var out strings.Builder
	for _, r := range l {
		b, err := schema.Encode(version, r)
		if err != api.OK {
			panic("no record")
		}
		out.WriteString(put(len(b)) + string(b))
	}
	return out.String()
}

// plainBlocks is the data of the blocks, sixteen by sixteen.
func plainBlocks(version int, l []api.Record) []string {
	var out []string
	for piece := range slices.Chunk(l, 16) {
		out = append(out, plainBlock(version, piece))
	}
	return out
}

// plainFooter is the footer's data behind a head and blocks: the places are counted in the bytes of the whole, and told less the one ahead.
func plainFooter(head string, blocks []string) string {
	out := put(len(blocks))
	at, ahead := len(framed(head)), 0
	for _, data := range blocks {
		out += put(at - ahead)
		ahead = at
		at += len(framed(data))
	}
	return out
}

// plainParts is the data of all frames of a segment.
func plainParts(version int, s api.Segment) []string {
	head, blocks := plainHead(version, s.Kind, s.First), plainBlocks(version, s.Records)
	return slices.Concat([]string{head}, blocks, []string{plainFooter(head, blocks)})
}

// plainEncode is the chapter's P8.2, of a segment that may be.
func plainEncode(version int, s api.Segment) string {
	return joined(plainParts(version, s)...)
}

// plainUpgrade is the segment as a version tells it.
func plainUpgrade(version int, s api.Segment) api.Segment {
	s.Records = slices.Clone(s.Records)
	for i := range s.Records {
		r, err := schema.Upgrade(version, s.Records[i])
		if err != api.OK {
			panic("no version")
		}
		s.Records[i] = r
	}
	return s
}

// plainFollow tells whether records may be a Body.
func plainFollow(l []api.Record) bool {
	for i, r := range l {
		if !schema.Fits(r) || i > 0 && r.Index-1 != l[i-1].Index {
			return false
		}
	}
	return len(l) <= 4096
}

// plainMay is the chapter's word of a segment that may be.
func plainMay(s api.Segment) bool {
	begins := len(s.Records) == 0 || s.Records[0].Index == s.First
	return s.Kind >= 0 && s.Kind <= 5 && s.First >= 0 && s.First < 1<<62 && begins && plainFollow(s.Records)
}

// plainReadHead is what the chapter's P8.3 says of the first frame's data.
func plainReadHead(data string) (version int, s api.Segment, err api.Errno) {
	left, found := strings.CutPrefix(data, "\x6c")
	for _, n := range []*int{&version, &s.Kind, &s.First} {
		value, size := num.Get([]byte(left))
		*n, left, found = value, left[size:], found && size > 0
	}
	switch {
	case !found || left != "":
		return 0, api.Segment{}, api.ErrForm
	case version < 1 || version > 3:
		return 0, api.Segment{}, api.ErrVersion
	case s.Kind > 5:
		return 0, api.Segment{}, api.ErrArg
	}
	return version, s, api.OK
}

// plainReadBlock is the records that data tell, if these are a block of that version and of 1 to 16 records.
func plainReadBlock(version int, data string) ([]api.Record, bool) {
	var l []api.Record
	if version == 3 {
		l, _ = block.Decode([]byte(data))
		return l, len(l) >= 1 && len(l) <= 16
	}
	for left := data; left != ""; {
		length, size := num.Get([]byte(left))
		if size == 0 || length > len(left)-size {
			return nil, false
		}
		r, err := schema.Decode([]byte(left[size : size+length]))
		if err != api.OK {
			return nil, false
		}
		l, left = append(l, r), left[size+length:]
	}
	if len(l) < 1 || len(l) > 16 || !plainFollow(l) || plainBlock(version, l) != data {
		return nil, false
	}
	return l, true
}

// plainDecode is the chapter's P8.3; the version is that of the head.
func plainDecode(b string) (version int, s api.Segment, err api.Errno) {
	refuse := func(err api.Errno) (int, api.Segment, api.Errno) { return 0, api.Segment{}, err }
	frames, err := frame.All([]byte(b))
	if err != api.OK {
		return refuse(err)
	}
	if len(frames) < 2 {
		return refuse(api.ErrEnd)
	}
	if version, s, err = plainReadHead(string(frames[0])); err != api.OK {
		return refuse(err)
	}
	ahead := 16
	for _, data := range frames[1 : len(frames)-1] {
		l, is := plainReadBlock(version, string(data))
		if !is || l[0].Index != s.First+len(s.Records) || ahead < 16 {
			return refuse(api.ErrForm)
		}
		s.Records, ahead = append(s.Records, l...), len(l)
		if len(s.Records) > 4096 {
			return refuse(api.ErrTooLarge)
		}
	}
	// The head and the blocks are what they would be written as, so that the bytes differ by the footer alone.
	if plainEncode(version, s) != b {
		return refuse(api.ErrEnd)
	}
	return version, s, api.OK
}

// plainRecover is the chapter's P8.4.
func plainRecover(b string) (api.Segment, int, bool) {
	frames, _ := frame.Whole([]byte(b))
	if len(frames) == 0 {
		return api.Segment{}, 0, false
	}
	version, s, err := plainReadHead(string(frames[0]))
	if err != api.OK {
		return api.Segment{}, 0, false
	}
	size, ahead := len(framed(string(frames[0]))), 16
	for _, data := range frames[1:] {
		l, is := plainReadBlock(version, string(data))
		if !is || l[0].Index != s.First+len(s.Records) || ahead < 16 || len(s.Records)+len(l) > 4096 {
			break
		}
		s.Records, ahead = append(s.Records, l...), len(l)
		size += len(framed(string(data)))
	}
	return s, size, true
}

// same: the lists may be nil or empty (R6).
func same(a, b api.Segment) bool {
	return a.Kind == b.Kind && a.First == b.First && slices.Equal(a.Records, b.Records)
}

func isZero(s api.Segment) bool { return same(s, api.Segment{}) }

// some is a record each of whose numbers is another one.
func some() api.Record {
	return api.Record{Index: 5, Proc: 2, Seq: 7, Op: api.Op{Code: api.Put, A: -3, B: 300}, Resp: -1}
}

// row is count records from first on, of some processes.
func row(first, count int) []api.Record {
	var out []api.Record
	for i := range count {
		r := some()
		r.Index, r.Proc, r.Seq, r.Resp = first+i, i%5, 1+i/5, i-3
		r.Op.Code, r.Op.A = i%11, 100*i
		out = append(out, r)
	}
	return out
}

// ofRow is a segment of count records from first on.
func ofRow(kind, first, count int) api.Segment {
	return api.Segment{Kind: kind, First: first, Records: row(first, count)}
}

// changed are a record each, by one change of some.
func changed(numbers []int, change func(r *api.Record, n int)) []api.Record {
	var out []api.Record
	for _, n := range numbers {
		r := some()
		change(&r, n)
		out = append(out, r)
	}
	return out
}

func setIndex(r *api.Record, n int) { r.Index = n }
func setProc(r *api.Record, n int)  { r.Proc = n }
func setSeq(r *api.Record, n int)   { r.Seq = n }
func setResp(r *api.Record, n int)  { r.Resp = n }
func setCode(r *api.Record, n int)  { r.Op.Code = n }
func setA(r *api.Record, n int)     { r.Op.A = n }
func setB(r *api.Record, n int)     { r.Op.B = n }

// goodRecords fit: each number at its edges; all have index 5.
func goodRecords() []api.Record {
	signed := []int{0, 1, -1, 63, 64, -65}
	ops := append(slices.Clone(signed), -api.MaxValue, api.MaxValue)
	return slices.Concat(
		[]api.Record{some(), {Index: 5}},
		changed([]int{0, 1, 127, 128, topNumber}, setSeq), changed([]int{0, 1, 63, 64}, setProc),
		changed([]int{0, 1, 9, 10}, setCode), changed(ops, setA), changed(ops, setB),
		changed(append(signed, -topResp, topResp), setResp),
	)
}

// wrongRecords do not fit, by one number, which is not the index.
func wrongRecords() []api.Record {
	ops := []int{math.MinInt, -api.MaxValue - 1, api.MaxValue + 1, math.MaxInt}
	return slices.Concat(
		changed([]int{math.MinInt, -1, 65, 1 << 32, math.MaxInt}, setProc),
		changed([]int{math.MinInt, -1, 1 << 62, math.MaxInt}, setSeq),
		changed([]int{math.MinInt, -1, 11, 256, math.MaxInt}, setCode), changed(ops, setA), changed(ops, setB),
		changed([]int{math.MinInt, -topResp - 1, topResp + 1, math.MaxInt}, setResp),
	)
}

// goodSegments may be: of each kind, of one and of several blocks, and at the edges of their indices.
func goodSegments() []api.Segment {
	out := []api.Segment{
		{}, {Kind: api.Ledger, First: topNumber}, {Kind: api.Queue, First: 1 << 40, Records: []api.Record{}},
		ofRow(api.Register, topNumber, 1), ofRow(api.Stack, topNumber-16, 17), ofRow(api.Store, topNumber-32, 33),
	}
	for i, count := range []int{1, 2, 15, 16, 17, 31, 32, 33, 47, 48, 100, 256} {
		out = append(out, ofRow(i%6, 7*i, count))
	}
	mixed := goodRecords()
	for i := range mixed {
		mixed[i].Index = 120 + i
	}
	out = append(out, api.Segment{First: 120, Records: mixed})
	for _, r := range goodRecords() {
		out = append(out, api.Segment{Kind: api.Ledger, First: 5, Records: []api.Record{r}})
	}
	return out
}

// wrongVersions there are not.
func wrongVersions() []int {
	return []int{math.MinInt, -3, -1, 0, 4, 5, 127, 128, 256 + 3, 1<<32 + 1, topNumber, 1 << 62, math.MaxInt}
}

func wrongKinds() []int {
	return []int{math.MinInt, -6, -2, -1, 6, 7, 127, 128, 256, 1 << 32, topNumber, 1 << 62, math.MaxInt}
}

func wrongFirsts() []int {
	return []int{math.MinInt, -1 << 62, -2, -1, 1 << 62, 1<<62 + 1, math.MaxInt}
}

// noNumbers are bytes that begin with no number, whatever stands behind them.
func noNumbers() []string {
	return []string{"\x80\x00", "\xff\x80\x00", strings.Repeat("\x80", 8) + "\x40", strings.Repeat("\x80", 9) + "\x01", strings.Repeat("\xff", 11)}
}

// spoiled hands out segments of which a frame's data were changed, left out, doubled, or put elsewhere, with sums that are right, and with the footer that was or that would be.
func spoiled(each func(b string)) {
	few := []byte{0, 1, 2, 3, 4, 6, 10, 16, 64, 65, 108, 127, 128, 255}
	chance := rand.New(rand.NewPCG(8, 8)) // the same numbers in every run
	for _, s := range goodSegments() {
		for version := 1; version <= 3; version++ {
			parts := plainParts(version, s)
			for range 12 {
				spoilt := slices.Clone(parts)
				at := chance.IntN(len(spoilt))
				data := []byte(spoilt[at])
				place := chance.IntN(len(data))
				switch chance.IntN(7) {
				case 0:
					data[place] ^= 1 << chance.IntN(8)
				case 1:
					data[place] = few[chance.IntN(len(few))]
				case 2:
					data = slices.Delete(data, place, place+1)
				case 3:
					data = slices.Insert(data, place, few[chance.IntN(len(few))])
				case 4:
					data = append(data, few[chance.IntN(len(few))])
				case 5:
					spoilt = slices.Insert(spoilt, at, spoilt[chance.IntN(len(spoilt))])
				case 6:
					data = []byte(spoilt[chance.IntN(len(spoilt))])
				}
				spoilt[at] = string(data)
				each(joined(spoilt...))
				last := len(spoilt) - 1
				spoilt[last] = plainFooter(spoilt[0], spoilt[min(1, last):last])
				each(joined(spoilt...))
				each(joined(slices.Delete(spoilt, last, last+1)...))
			}
		}
	}
}
