package snapshot

import (
	"math"
	"math/rand/v2"
	"slices"
	"strings"

	"ferryman/api"
	"ferryman/codec"
	"ferryman/crc"
	"ferryman/frame"
	"ferryman/num"
	"ferryman/objs"
)

const (
	topNumber = 1<<62 - 1 // of Index and Seq
	topResp   = 1 << 50
	topValue  = 1 << 40
)

func put(n int) string       { return string(num.Put(nil, n)) }
func putSigned(n int) string { return string(num.PutSigned(nil, n)) }
func sumOf(s string) string  { return string(num.Fixed32(crc.Sum([]byte(s)))) }

// joined are the frames of data, one behind the other.
func joined(parts ...string) string {
	var out strings.Builder
	for _, data := range parts {
		b, err := frame.Encode([]byte(data))
		if err != api.OK {
			panic("no frame")
		}
		out.Write(b)
	}
	return out.String()
}

// plainState is a state as codec's chapter tells it, also one that may not be.
func plainState(s api.State) string {
	seal := 0
	if s.Sealed {
		seal = s.To + 1
	}
	out := put(s.Kind) + put(seal) + put(len(s.L))
	for _, n := range s.L {
		out += putSigned(n)
	}
	return out
}

// plainTable is what a whole tells behind the state, also of a table that may not be.
func plainTable(t []api.Entry) string {
	out := put(len(t))
	for _, e := range t {
		out += put(e.Proc) + put(e.Seq) + putSigned(e.Resp)
	}
	return out
}

func plainWhole(s api.Snapshot) string {
	state := plainState(s.State)
	return put(len(state)) + state + plainTable(s.Table)
}

// plainManifest is the manifest's data, of whatever numbers.
func plainManifest(version, index, length int, sum string) string {
	return "\x73" + put(version) + put(index) + put(length) + sum
}

// plainChunks is the whole, cut into pieces of 64 bytes.
func plainChunks(whole string) []string {
	var out []string
	for len(whole) > 64 {
		out, whole = append(out, whole[:64]), whole[64:]
	}
	if whole != "" {
		out = append(out, whole)
	}
	return out
}

// partsOf is the data of the frames of a whole, with a manifest that tells of it.
func partsOf(index int, whole string) []string {
	return append([]string{plainManifest(3, index, len(whole), sumOf(whole))}, plainChunks(whole)...)
}

// ofWhole is the bytes of a whole, whatever it is.
func ofWhole(index int, whole string) string { return joined(partsOf(index, whole)...) }

// plainEncode is the chapter's P9.2, also of a snapshot that may not be.
func plainEncode(s api.Snapshot) string { return ofWhole(s.Index, plainWhole(s)) }

// plainMay is the chapter's P9.1.
func plainMay(s api.Snapshot) bool {
	may := s.Index >= 0 && s.Index <= topNumber && objs.May(s.State)
	for i, e := range s.Table {
		may = may && (i == 0 || e.Proc > s.Table[i-1].Proc)
		may = may && e.Proc >= 0 && e.Proc <= 64 && e.Seq >= 0 && e.Seq <= topNumber && e.Resp >= -topResp && e.Resp <= topResp
	}
	return may
}

// plainReadTable is the entries that s tells, to its end.
func plainReadTable(s string) ([]api.Entry, bool) {
	var t []api.Entry
	count, size := num.Get([]byte(s))
	if size == 0 {
		return nil, false
	}
	for left := s[size:]; ; count-- {
		if count == 0 || left == "" {
			return t, count == 0 && left == ""
		}
		proc, isProc := num.Get([]byte(left))
		seq, isSeq := num.Get([]byte(left[isProc:]))
		resp, isResp := num.GetSigned([]byte(left[isProc+isSeq:]))
		if isProc == 0 || isSeq == 0 || isResp == 0 {
			return nil, false
		}
		t, left = append(t, api.Entry{Proc: proc, Seq: seq, Resp: resp}), left[isProc+isSeq+isResp:]
	}
}

// plainDecode is the chapter's P9.3.
func plainDecode(b string) (api.Snapshot, api.Errno) {
	refuse := func(err api.Errno) (api.Snapshot, api.Errno) { return api.Snapshot{}, err }
	frames, err := frame.All([]byte(b))
	if err != api.OK {
		return refuse(err)
	}
	if len(frames) == 0 {
		return refuse(api.ErrEnd)
	}
	left, there := strings.CutPrefix(string(frames[0]), "\x73")
	var numbers [3]int
	for i := range numbers {
		n, size := num.Get([]byte(left))
		numbers[i], left, there = n, left[size:], there && size > 0
	}
	var chunks []string
	for _, data := range frames[1:] {
		chunks = append(chunks, string(data))
	}
	whole := strings.Join(chunks, "")
	switch {
	case !there:
		return refuse(api.ErrForm)
	case numbers[0] != 3:
		return refuse(api.ErrVersion)
	case len(left) != 4:
		return refuse(api.ErrForm)
	case len(whole) != numbers[2]:
		return refuse(api.ErrEnd)
	case !slices.Equal(chunks, plainChunks(whole)):
		return refuse(api.ErrForm)
	case sumOf(whole) != left:
		return refuse(api.ErrSum)
	}
	return plainReadWhole(numbers[1], whole)
}

// plainReadWhole is what P9.3 says of a whole.
func plainReadWhole(index int, whole string) (api.Snapshot, api.Errno) {
	length, size := num.Get([]byte(whole))
	if size == 0 || length > len(whole)-size {
		return api.Snapshot{}, api.ErrForm
	}
	state, err := codec.DecodeState([]byte(whole[size : size+length]))
	table, isTable := plainReadTable(whole[size+length:])
	s := api.Snapshot{Index: index, State: state, Table: table}
	switch {
	case err == api.ErrForm || !isTable:
		return api.Snapshot{}, api.ErrForm
	case err != api.OK || !plainMay(s):
		return api.Snapshot{}, api.ErrArg
	}
	return s, api.OK
}

// plainNote is the chapter's P9.4: entries are handed on one by one, r's ahead of the first one with a greater Proc.
func plainNote(t []api.Entry, r api.Record) []api.Entry {
	var out []api.Entry
	mine, put := api.Entry{Proc: r.Proc, Seq: r.Seq, Resp: r.Resp}, false
	for _, e := range t {
		if e.Proc == r.Proc {
			continue
		}
		if e.Proc > r.Proc && !put {
			out, put = append(out, mine), true
		}
		out = append(out, e)
	}
	if !put {
		out = append(out, mine)
	}
	return out
}

// same: the lists may be nil or empty (R6). It does not lean on what is tested.
func same(a, b api.Snapshot) bool {
	return a.Index == b.Index && objs.Same(a.State, b.State) && slices.Equal(a.Table, b.Table)
}

func isZero(s api.Snapshot) bool { return same(s, api.Snapshot{}) }

// own is s with lists that nobody else has.
func own(s api.Snapshot) api.Snapshot {
	s.State.L, s.Table = slices.Clone(s.State.L), slices.Clone(s.Table)
	return s
}

// some is a snapshot each of whose numbers is another one.
func some() api.Snapshot {
	return api.Snapshot{
		Index: 300,
		State: api.State{Kind: api.Store, L: []int{2, -1, 9, 300}, Sealed: true, To: api.Replicas},
		Table: []api.Entry{{Proc: 0, Seq: 5, Resp: 7}, {Proc: 3, Seq: 128, Resp: -4}, {Proc: 64, Seq: 300, Resp: -1}},
	}
}

// ofLength is a snapshot whose whole has so many bytes, from 5 to 129.
func ofLength(length int) api.Snapshot {
	s := api.Snapshot{Index: 2, State: api.State{Kind: api.Queue}}
	for i := range min(length-5, 64) {
		n := 1 + i%60
		if i < length-69 {
			n += 100 // which takes two bytes
		}
		s.State.L = append(s.State.L, n)
	}
	return s
}

// tableOf is a table of the first so many processes, with entries as great as there may be.
func tableOf(count int) []api.Entry {
	var out []api.Entry
	for i := range count {
		out = append(out, api.Entry{Proc: i, Seq: topNumber - i, Resp: i - topResp})
	}
	return out
}

// pairs are n of them, with rising keys from first on, all of which have that number.
func pairs(n, first, number int) []int {
	var out []int
	for i := range n {
		out = append(out, first+i, number)
	}
	return out
}

// goodStates may be: of each kind, not sealed and sealed, with few and with many numbers.
func goodStates() []api.State {
	var out []api.State
	for kind := range api.Kinds {
		out = append(out, objs.Start(kind))
	}
	out = append(out,
		api.State{Kind: api.Counter, L: []int{topValue}}, api.State{Kind: api.Register, L: []int{-topValue}, Sealed: true},
		api.State{Kind: api.Queue, L: []int{1, -2, 300}}, api.State{Kind: api.Queue, L: slices.Repeat([]int{topValue}, 64)},
		api.State{Kind: api.Stack, L: []int{}, Sealed: true, To: 1}, api.State{Kind: api.Stack, L: slices.Repeat([]int{7}, 63)},
		api.State{Kind: api.Store, L: []int{0, -1, 255, 0}}, api.State{Kind: api.Store, L: pairs(64, 192, -topValue), Sealed: true, To: 2},
		api.State{Kind: api.Ledger, L: []int{7, 0}, Sealed: true, To: 2}, api.State{Kind: api.Ledger, L: pairs(64, 0, topValue)},
	)
	return out
}

// toldStates may not be, but bytes can tell them.
func toldStates() []api.State {
	return []api.State{
		{}, {Sealed: true, To: 1}, {Kind: api.Register}, {L: []int{1, 2}}, {Kind: api.Register, L: []int{topValue + 1}}, {L: []int{math.MinInt}},
		{Kind: api.Queue, L: make([]int, 65)}, {Kind: api.Stack, L: []int{1, -topValue - 1}}, {Kind: api.Stack, L: make([]int, 128)},
		{Kind: api.Store, L: []int{1}}, {Kind: api.Store, L: []int{3, 0, 3, 0}}, {Kind: api.Store, L: []int{4, 0, 3, 0}}, {Kind: api.Store, L: []int{256, 0}},
		{Kind: api.Ledger, L: []int{1, -1}}, {Kind: api.Ledger, L: []int{-1, 1}}, {Kind: 6, L: []int{0}}, {Kind: 7}, {Kind: topNumber, L: []int{0}},
	}
}

// untoldStates may not be, and no bytes tell them.
func untoldStates() []api.State {
	return []api.State{
		{Kind: -1, L: []int{0}}, {Kind: 1 << 62, L: []int{0}}, {Kind: api.Queue, To: 1}, {L: []int{0}, To: -1}, {L: []int{0}, Sealed: true, To: 3},
		{Kind: api.Stack, Sealed: true, To: -1}, {Kind: api.Queue, L: make([]int, 129)}, {Kind: api.Ledger, L: pairs(65, 0, 1)},
	}
}

// goodTables may be: of no entry, of one at each edge, of several and of all processes.
func goodTables() [][]api.Entry {
	out := [][]api.Entry{nil, {}, some().Table, {{Proc: 1}, {Proc: 2}}, {{Proc: 0}, {Proc: 64}}, tableOf(64), tableOf(65)}
	for _, proc := range []int{0, 1, 63, 64} {
		out = append(out, []api.Entry{{Proc: proc, Seq: 4, Resp: 2}})
	}
	for _, seq := range []int{0, 1, 127, 128, 1 << 32, topNumber - 1, topNumber} {
		out = append(out, []api.Entry{{Proc: 5, Seq: seq, Resp: 2}})
	}
	for _, resp := range []int{-topResp, -topResp + 1, -65, -64, -1, 0, 63, 64, topResp - 1, topResp} {
		out = append(out, []api.Entry{{Proc: 5, Seq: 4, Resp: resp}})
	}
	return out
}

// toldTables may not be, but bytes can tell them.
func toldTables() [][]api.Entry {
	out := [][]api.Entry{
		{{Proc: 3, Seq: 1}, {Proc: 3, Seq: 1}}, {{Proc: 3, Seq: 1}, {Proc: 3, Seq: 2}}, {{Proc: 0}, {Proc: 0}}, {{Proc: 64}, {Proc: 64}},
		{{Proc: 3}, {Proc: 2}}, {{Proc: 1}, {Proc: 3}, {Proc: 2}}, {{Proc: 1}, {Proc: 3}, {Proc: 0}}, {{Proc: 64}, {Proc: 0}}, {{Proc: 1}, {Proc: 3}, {Proc: 1}},
		append(tableOf(65), api.Entry{Proc: 65}), append(tableOf(65), api.Entry{Proc: 64}), append(tableOf(65), tableOf(65)...), make([]api.Entry, 300),
	}
	var wrong []api.Entry
	for _, proc := range []int{65, 66, 127, 128, 256, 1 << 32, topNumber} {
		wrong = append(wrong, api.Entry{Proc: proc, Seq: 1, Resp: 1})
	}
	for _, resp := range []int{math.MinInt, -topResp - 1, topResp + 1, math.MaxInt} {
		wrong = append(wrong, api.Entry{Proc: 2, Seq: 1, Resp: resp})
	}
	return append(out, among(wrong)...)
}

// untoldTables may not be, and no bytes tell them.
func untoldTables() [][]api.Entry {
	var wrong []api.Entry
	for _, proc := range []int{math.MinInt, -2, -1, 1 << 62, math.MaxInt} {
		wrong = append(wrong, api.Entry{Proc: proc, Seq: 1, Resp: 1})
	}
	for _, seq := range []int{math.MinInt, -2, -1, 1 << 62, 1<<62 + 1, math.MaxInt} {
		wrong = append(wrong, api.Entry{Proc: 2, Seq: seq, Resp: 1})
	}
	return among(wrong)
}

// among are tables with each of some entries alone, behind others, and ahead of one.
func among(wrong []api.Entry) [][]api.Entry {
	var out [][]api.Entry
	for _, e := range wrong {
		out = append(out, []api.Entry{e}, []api.Entry{{Proc: 0, Seq: 3}, {Proc: 1}, e}, []api.Entry{{Proc: 1}, e, {Proc: 63}})
	}
	return out
}

// goodSnapshots may be.
func goodSnapshots() []api.Snapshot {
	out := []api.Snapshot{some()}
	for _, index := range []int{0, 1, 127, 128, 1 << 32, topNumber - 1, topNumber} {
		s := some()
		s.Index = index
		out = append(out, s)
	}
	tables := goodTables()
	for i, state := range goodStates() {
		out = append(out, api.Snapshot{Index: i, State: state}, api.Snapshot{Index: i, State: state, Table: tables[i%len(tables)]}, api.Snapshot{State: state, Table: tableOf(65)})
	}
	for i, table := range tables {
		s := some()
		s.Index, s.Table = 1000*i, table
		out = append(out, s)
	}
	for _, length := range []int{5, 6, 62, 63, 64, 65, 66, 127, 128, 129} {
		out = append(out, ofLength(length))
	}
	return out
}

// toldSnapshots may not be, but bytes can tell them: their index is one that may be.
func toldSnapshots() []api.Snapshot {
	var out []api.Snapshot
	for i, state := range toldStates() {
		out = append(out, api.Snapshot{Index: i, State: state}, api.Snapshot{Index: i, State: state, Table: some().Table}, api.Snapshot{State: state, Table: toldTables()[i]})
	}
	for _, table := range toldTables() {
		s := some()
		s.Table = table
		out = append(out, s)
	}
	return out
}

// untoldSnapshots may not be, and no bytes tell them.
func untoldSnapshots() []api.Snapshot {
	var out []api.Snapshot
	for _, index := range []int{math.MinInt, -1 << 62, -2, -1, 1 << 62, 1<<62 + 1, math.MaxInt} {
		s := some()
		s.Index = index
		out = append(out, s, api.Snapshot{Index: index, State: objs.Start(api.Queue)})
	}
	for _, state := range untoldStates() {
		out = append(out, api.Snapshot{State: state}, api.Snapshot{Index: 5, State: state, Table: some().Table})
	}
	for _, table := range untoldTables() {
		s := some()
		s.Table = table
		out = append(out, s)
	}
	return out
}

// noNumbers are bytes that begin with no number, neither of Get nor of GetSigned, whatever stands behind them.
func noNumbers() []string {
	return []string{"\x80\x00", "\xff\x80\x00", strings.Repeat("\x80", 9) + "\x02", strings.Repeat("\xff", 11)}
}

// noGets are bytes that begin with no number of Get.
func noGets() []string {
	return append(noNumbers(), strings.Repeat("\x80", 8)+"\x40", strings.Repeat("\x80", 9)+"\x01")
}

// spoil is data with one thing changed by chance.
func spoil(chance *rand.Rand, data string) string {
	few := []byte{0, 1, 2, 3, 4, 9, 10, 63, 64, 65, 115, 127, 128, 255}
	b := []byte(data)
	place := chance.IntN(len(b) + 1)
	if place == len(b) {
		return string(append(b, few[chance.IntN(len(few))]))
	}
	switch chance.IntN(4) {
	case 0:
		b[place] ^= 1 << chance.IntN(8)
	case 1:
		b[place] = few[chance.IntN(len(few))]
	case 2:
		b = slices.Delete(b, place, place+1)
	case 3:
		b = slices.Insert(b, place, few[chance.IntN(len(few))])
	}
	return string(b)
}

// spoiled hands out snapshots of which something was changed, with frames' sums that are right: the whole, with a manifest that tells of it; or the data of one frame; or which frames there are.
func spoiled(each func(b string)) {
	chance := rand.New(rand.NewPCG(9, 9)) // the same numbers in every run
	for _, s := range slices.Concat(goodSnapshots(), toldSnapshots()) {
		whole := plainWhole(s)
		each(ofWhole(s.Index, whole))
		for range 30 {
			each(ofWhole(s.Index, spoil(chance, whole)))
			each(ofWhole(s.Index, whole[:chance.IntN(min(len(whole), 12))]+spoil(chance, whole[max(0, len(whole)-12):])))
		}
		for range 20 {
			parts := partsOf(s.Index, whole)
			at := chance.IntN(len(parts))
			parts[at] = spoil(chance, parts[at])
			each(joined(parts...))
			parts = partsOf(s.Index, whole)
			parts[0] = spoil(chance, parts[0])
			each(joined(parts...))
			parts = partsOf(s.Index, whole)
			at, other := chance.IntN(len(parts)), chance.IntN(len(parts))
			each(joined(slices.Insert(slices.Clone(parts), at, parts[other])...))
			parts[at], parts[other] = parts[other], parts[at]
			each(joined(parts...))
			each(joined(slices.Delete(parts, at, at+1)...))
		}
	}
}
