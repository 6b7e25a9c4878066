package delta

import (
	"math"
	"math/rand/v2"
	"slices"
	"strings"

	"ferryman/api"
	"ferryman/frame"
	"ferryman/num"
	"ferryman/objs"
	"ferryman/snapshot"
)

const (
	topNumber = 1<<62 - 1 // of From, To, Ahead, Behind and Seq
	topResp   = 1 << 50
	topValue  = 1 << 40
)

func put(n int) string       { return string(num.Put(nil, n)) }
func putSigned(n int) string { return string(num.PutSigned(nil, n)) }

func framed(data string) string {
	b, err := frame.Encode([]byte(data))
	if err != api.OK {
		panic("no frame")
	}
	return string(b)
}

// plainMid is what data tell of Mid, of whatever numbers.
func plainMid(mid []int) string {
	out := put(len(mid))
	for _, n := range mid {
		out += putSigned(n)
	}
	return out
}

// plainTable is what data tell of a table, of whatever entries.
func plainTable(t []api.Entry) string {
	out := put(len(t))
	for _, e := range t {
		out += put(e.Proc) + put(e.Seq) + putSigned(e.Resp)
	}
	return out
}

func plainSeal(d api.Delta) string {
	if d.Sealed {
		return put(d.Engine + 1)
	}
	return put(0)
}

// plainData is what the frame of a delta holds, also of one that may not be.
func plainData(d api.Delta) string {
	return put(d.From) + put(d.To) + put(d.Ahead) + put(d.Behind) + plainMid(d.Mid) + plainSeal(d) + plainTable(d.Table)
}

// plainEncode is the chapter's P10.3, also of a delta that may not be.
func plainEncode(d api.Delta) string { return framed(plainData(d)) }

// isTable is what chapter 9 calls a table.
func isTable(t []api.Entry) bool {
	is := true
	for i, e := range t {
		is = is && (i == 0 || e.Proc > t[i-1].Proc)
		is = is && e.Proc >= 0 && e.Proc <= 64 && e.Seq >= 0 && e.Seq <= topNumber && e.Resp >= -topResp && e.Resp <= topResp
	}
	return is
}

// plainMay is the chapter's P10.3.
func plainMay(d api.Delta) bool {
	may := len(d.Mid) <= 128 && d.Engine >= 0 && d.Engine <= 2 && (d.Sealed || d.Engine == 0) && isTable(d.Table)
	for _, n := range []int{d.From, d.To, d.Ahead, d.Behind} {
		may = may && n >= 0 && n <= topNumber
	}
	for _, n := range d.Mid {
		may = may && n >= -topValue && n <= topValue
	}
	return may
}

// plainNumbers reads numbers, one behind the other: of each letter of form one, of num's Get (n) or GetSigned (s).
func plainNumbers(data, form string) ([]int, string, bool) {
	var out []int
	for _, letter := range form {
		get := num.Get
		if letter == 's' {
			get = num.GetSigned
		}
		n, size := get([]byte(data))
		if size == 0 {
			return nil, "", false
		}
		out, data = append(out, n), data[size:]
	}
	return out, data, true
}

// plainRead is the delta that data tell, to their end.
func plainRead(data string) (api.Delta, bool) {
	head, left, there := plainNumbers(data, "nnnnn")
	if !there || head[4] > 128 {
		return api.Delta{}, false
	}
	mid, left, there := plainNumbers(left, strings.Repeat("s", head[4]))
	if !there {
		return api.Delta{}, false
	}
	end, left, there := plainNumbers(left, "nn")
	if !there || end[0] > 3 || end[1] > len(left) {
		return api.Delta{}, false
	}
	entries, left, there := plainNumbers(left, strings.Repeat("nns", end[1]))
	if !there || left != "" {
		return api.Delta{}, false
	}
	d := api.Delta{From: head[0], To: head[1], Ahead: head[2], Behind: head[3], Mid: mid}
	if end[0] > 0 {
		d.Sealed, d.Engine = true, end[0]-1
	}
	for e := range slices.Chunk(entries, 3) {
		d.Table = append(d.Table, api.Entry{Proc: e[0], Seq: e[1], Resp: e[2]})
	}
	return d, true
}

// plainDecode is the chapter's P10.4.
func plainDecode(b string) (api.Delta, api.Errno) {
	data, size, err := frame.Decode([]byte(b))
	if err != api.OK {
		return api.Delta{}, err
	}
	if len(b) > size {
		return api.Delta{}, api.ErrEnd
	}
	d, there := plainRead(string(data))
	if !there {
		return api.Delta{}, api.ErrForm
	}
	if !plainMay(d) {
		return api.Delta{}, api.ErrArg
	}
	return d, api.OK
}

// hasProc: is there an entry of that process?
func hasProc(t []api.Entry, proc int) bool {
	return slices.ContainsFunc(t, func(e api.Entry) bool { return e.Proc == proc })
}

// plainDiff is the chapter's P10.1: the greatest number at which both begin alike, and then the greatest at which what is left ends alike.
func plainDiff(a, b api.Snapshot) (api.Delta, api.Errno) {
	if !snapshot.May(a) || !snapshot.May(b) || a.State.Kind != b.State.Kind {
		return api.Delta{}, api.ErrArg
	}
	for _, e := range a.Table {
		if !hasProc(b.Table, e.Proc) {
			return api.Delta{}, api.ErrGap
		}
	}
	if a.Index > b.Index {
		return api.Delta{}, api.ErrGap
	}
	old, now := a.State.L, b.State.L
	d := api.Delta{From: a.Index, To: b.Index, Sealed: b.State.Sealed, Engine: b.State.To}
	for n := range min(len(old), len(now)) + 1 {
		if slices.Equal(old[:n], now[:n]) {
			d.Ahead = n
		}
	}
	for n := range min(len(old), len(now)) - d.Ahead + 1 {
		if slices.Equal(old[len(old)-n:], now[len(now)-n:]) {
			d.Behind = n
		}
	}
	d.Mid = now[d.Ahead : len(now)-d.Behind]
	for _, e := range b.Table {
		if !slices.Contains(a.Table, e) {
			d.Table = append(d.Table, e)
		}
	}
	return d, api.OK
}

// plainApply is the chapter's P10.2: the table as one entry or none of each process, with all others behind it.
func plainApply(a api.Snapshot, d api.Delta) (api.Snapshot, api.Errno) {
	l := a.State.L
	if !snapshot.May(a) || d.Ahead < 0 || d.Behind < 0 || d.Ahead > len(l) || d.Behind > len(l) || d.Ahead+d.Behind > len(l) {
		return api.Snapshot{}, api.ErrArg
	}
	if a.Index != d.From || d.To < d.From {
		return api.Snapshot{}, api.ErrGap
	}
	last := map[int]api.Entry{}
	for _, e := range slices.Concat(a.Table, d.Table) {
		last[e.Proc] = e
	}
	s := api.Snapshot{Index: d.To, State: api.State{Kind: a.State.Kind, Sealed: d.Sealed, To: d.Engine}}
	s.State.L = slices.Concat(l[:d.Ahead], d.Mid, l[len(l)-d.Behind:])
	for proc := range 65 {
		if e, there := last[proc]; there {
			s.Table = append(s.Table, e)
			delete(last, proc)
		}
	}
	if len(last) > 0 || !snapshot.May(s) {
		return api.Snapshot{}, api.ErrArg
	}
	return s, api.OK
}

// same: the lists may be nil or empty (R6). It does not lean on what is tested.
func same(a, b api.Delta) bool {
	isSame := a.From == b.From && a.To == b.To && a.Ahead == b.Ahead && a.Behind == b.Behind && a.Sealed == b.Sealed && a.Engine == b.Engine
	return isSame && slices.Equal(a.Mid, b.Mid) && slices.Equal(a.Table, b.Table)
}

func isZero(d api.Delta) bool { return same(d, api.Delta{}) }

// own is d with lists that nobody else has.
func own(d api.Delta) api.Delta {
	d.Mid, d.Table = slices.Clone(d.Mid), slices.Clone(d.Table)
	return d
}

func ownSnapshot(s api.Snapshot) api.Snapshot {
	s.State.L, s.Table = slices.Clone(s.State.L), slices.Clone(s.Table)
	return s
}

// some is a delta each of whose numbers is another one.
func some() api.Delta {
	return api.Delta{
		From: 300, To: 128, Ahead: 3, Behind: 4, Mid: []int{-1, 300}, Sealed: true, Engine: api.Replicas,
		Table: []api.Entry{{Proc: 0, Seq: 5, Resp: 7}, {Proc: 64, Seq: 300, Resp: -1}},
	}
}

// someSnapshot is one whose numbers, seal and entries may all become others.
func someSnapshot() api.Snapshot {
	return api.Snapshot{
		Index: 20,
		State: api.State{Kind: api.Queue, L: []int{1, 2, 3, 4}},
		Table: []api.Entry{{Proc: 1, Seq: 5, Resp: 7}, {Proc: 3, Seq: 6, Resp: -4}},
	}
}

// leave is a delta that leaves someSnapshot as it is.
func leave() api.Delta { return api.Delta{From: 20, To: 20, Ahead: 2, Behind: 2} }

// tableOf is a table of the first so many processes, with entries as great as there may be.
func tableOf(count int) []api.Entry {
	var out []api.Entry
	for i := range count {
		out = append(out, api.Entry{Proc: i, Seq: topNumber - i, Resp: i - topResp})
	}
	return out
}

// pairs are n of them, with rising keys from first on, all of which have that number.
func pairs(n, first, number int) []int {
	var out []int
	for i := range n {
		out = append(out, first+i, number)
	}
	return out
}

// goodTables may be: of no entry, of one at each edge, of several and of all processes.
func goodTables() [][]api.Entry {
	out := [][]api.Entry{nil, {}, some().Table, {{Proc: 1}, {Proc: 2}}, {{Proc: 0}, {Proc: 64}}, tableOf(64), tableOf(65)}
	for _, proc := range []int{0, 1, 63, 64} {
		out = append(out, []api.Entry{{Proc: proc, Seq: 4, Resp: 2}})
	}
	for _, seq := range []int{0, 1, 127, 128, topNumber - 1, topNumber} {
		out = append(out, []api.Entry{{Proc: 5, Seq: seq, Resp: 2}})
	}
	for _, resp := range []int{-topResp, -65, -64, -1, 0, 63, 64, topResp} {
		out = append(out, []api.Entry{{Proc: 5, Seq: 4, Resp: resp}})
	}
	return out
}

// toldTables are none, but bytes can tell them.
func toldTables() [][]api.Entry {
	return [][]api.Entry{
		{{Proc: 3, Seq: 1}, {Proc: 3, Seq: 1}}, {{Proc: 0}, {Proc: 0}}, {{Proc: 3}, {Proc: 2}}, {{Proc: 1}, {Proc: 3}, {Proc: 2}}, {{Proc: 64}, {Proc: 0}},
		{{Proc: 65}}, {{Proc: 1}, {Proc: 65}}, {{Proc: 65}, {Proc: 1}}, {{Proc: topNumber}}, append(tableOf(65), api.Entry{Proc: 65}), make([]api.Entry, 300),
		{{Proc: 1, Resp: topResp + 1}}, {{Proc: 1, Resp: -topResp - 1}}, {{Proc: 1}, {Proc: 2, Resp: math.MinInt}, {Proc: 3}}, {{Proc: 1, Resp: math.MaxInt}, {Proc: 3}},
	}
}

// untoldTables are none, and no bytes tell them.
func untoldTables() [][]api.Entry {
	return [][]api.Entry{
		{{Proc: -1}}, {{Proc: -1}, {Proc: 0}}, {{Proc: 3}, {Proc: math.MinInt}}, {{Proc: 1 << 62}}, {{Proc: 1}, {Proc: math.MaxInt}},
		{{Proc: 1, Seq: -1}}, {{Proc: 1}, {Proc: 2, Seq: math.MinInt}}, {{Proc: 1, Seq: 1 << 62}, {Proc: 2}}, {{Proc: 1}, {Proc: 2, Seq: math.MaxInt}},
	}
}

// goodDeltas may be.
func goodDeltas() []api.Delta {
	out := []api.Delta{{}, some(), leave(), {Mid: []int{}, Table: []api.Entry{}}}
	with := func(change func(d *api.Delta)) {
		d := some()
		change(&d)
		out = append(out, d)
	}
	for _, n := range []int{0, 1, 127, 128, 1 << 32, topNumber - 1, topNumber} {
		with(func(d *api.Delta) { d.From = n })
		with(func(d *api.Delta) { d.To = n })
		with(func(d *api.Delta) { d.Ahead = n })
		with(func(d *api.Delta) { d.Behind = n })
	}
	for _, count := range []int{0, 1, 2, 64, 127, 128} {
		with(func(d *api.Delta) { d.Mid = slices.Repeat([]int{5}, count) })
		with(func(d *api.Delta) { d.Mid = slices.Repeat([]int{-topValue}, count) })
	}
	for _, n := range []int{-topValue, -topValue + 1, -65, -64, -1, 0, 1, 63, 64, topValue - 1, topValue} {
		with(func(d *api.Delta) { d.Mid = []int{n} })
		with(func(d *api.Delta) { d.Mid = []int{7, n, 8} })
	}
	for engine := range 3 {
		with(func(d *api.Delta) { d.Engine = engine })
	}
	with(func(d *api.Delta) { d.Sealed, d.Engine = false, 0 })
	for _, table := range goodTables() {
		with(func(d *api.Delta) { d.Table = table })
	}
	return out
}

// toldDeltas may not be, but bytes can tell them.
func toldDeltas() []api.Delta {
	var out []api.Delta
	for _, n := range []int{math.MinInt, -topValue - 1, topValue + 1, math.MaxInt} {
		for _, mid := range [][]int{{n}, {n, 1}, {1, n}, append(make([]int, 127), n)} {
			d := some()
			d.Mid = mid
			out = append(out, d, api.Delta{Mid: mid})
		}
	}
	for _, table := range toldTables() {
		d := some()
		d.Table = table
		out = append(out, d, api.Delta{Table: table})
	}
	return out
}

// untoldDeltas may not be, and no bytes tell them.
func untoldDeltas() []api.Delta {
	var out []api.Delta
	with := func(change func(d *api.Delta)) {
		d, none := some(), api.Delta{}
		change(&d)
		change(&none)
		out = append(out, d, none)
	}
	for _, n := range []int{math.MinInt, -1 << 62, -2, -1, 1 << 62, 1<<62 + 1, math.MaxInt} {
		with(func(d *api.Delta) { d.From = n })
		with(func(d *api.Delta) { d.To = n })
		with(func(d *api.Delta) { d.Ahead = n })
		with(func(d *api.Delta) { d.Behind = n })
	}
	for _, count := range []int{129, 130, 256, 1 << 16} {
		with(func(d *api.Delta) { d.Mid = make([]int, count) })
	}
	for _, engine := range []int{math.MinInt, -1, 3, 4, math.MaxInt} {
		with(func(d *api.Delta) { d.Sealed, d.Engine = true, engine })
		with(func(d *api.Delta) { d.Sealed, d.Engine = false, engine })
	}
	for _, engine := range []int{1, 2} {
		with(func(d *api.Delta) { d.Sealed, d.Engine = false, engine })
	}
	for _, table := range untoldTables() {
		with(func(d *api.Delta) { d.Table = table })
	}
	return out
}

// lists are numbers of which an object of that kind may have any: none, one and several, which begin alike, end alike, do both, and do neither.
func lists(kind int) [][]int {
	switch kind {
	case api.Counter, api.Register:
		return [][]int{{0}, {5}, {-topValue}, {topValue}}
	case api.Queue, api.Stack:
		return [][]int{
			nil, {}, {1}, {2}, {1, 2}, {1, 1}, {1, 1, 1}, {1, 1, 1, 1}, {1, 2, 1}, {1, 2, 1, 2, 1}, {1, 2, 3}, {2, 3, 4}, {1, 2, 9}, {9, 2, 3}, {1, 7, 3}, {1, 7, 8, 3}, {1, 3}, {3, 2, 1},
			make([]int, 64), make([]int, 63), append(make([]int, 63), 1), append([]int{1}, make([]int, 63)...), {-topValue, topValue},
		}
	}
	return [][]int{
		nil, {}, {0, 0}, {0, 7}, {7, 7}, {1, 1, 2, 2}, {1, 1, 2, 3}, {2, 2}, {1, 2, 2, 2}, {1, 1, 2, 2, 3, 3}, {1, 1, 3, 3}, {1, 1, 2, 9, 3, 3}, {1, 0, 3, 0}, {1, 0, 2, 0, 3, 0}, {255, topValue},
		pairs(64, 0, 1), pairs(64, 1, 1), pairs(63, 0, 1), pairs(63, 1, 1), pairs(64, 192, topValue),
	}
}

// snapshotsOf may be: of a kind, at indices that are few, with tables of few processes.
func snapshotsOf(kind int) []api.Snapshot {
	tables := [][]api.Entry{nil, {{Proc: 2, Seq: 1, Resp: 1}}, {{Proc: 2, Seq: 2, Resp: 1}, {Proc: 4, Seq: 1}}, {{Proc: 0, Seq: 1}, {Proc: 2, Seq: 2, Resp: 1}, {Proc: 4, Seq: 1, Resp: -1}}}
	var out []api.Snapshot
	for i, l := range lists(kind) {
		s := api.Snapshot{Index: i % 3, State: api.State{Kind: kind, L: l}, Table: tables[i%len(tables)]}
		if i%5 == 4 {
			s.State.Sealed, s.State.To = true, i%3
		}
		out = append(out, s)
	}
	return out
}

// wrongSnapshots may not be: by their index, their state and their table.
func wrongSnapshots() []api.Snapshot {
	out := []api.Snapshot{{}}
	with := func(change func(s *api.Snapshot)) {
		s := someSnapshot()
		change(&s)
		out = append(out, s)
	}
	for _, index := range []int{math.MinInt, -1, 1 << 62, math.MaxInt} {
		with(func(s *api.Snapshot) { s.Index = index })
	}
	for _, kind := range []int{-1, api.Counter, api.Register, api.Kinds} {
		with(func(s *api.Snapshot) { s.State.Kind = kind })
	}
	with(func(s *api.Snapshot) { s.State.To = 1 })
	with(func(s *api.Snapshot) { s.State.Sealed, s.State.To = true, 3 })
	with(func(s *api.Snapshot) { s.State.Sealed, s.State.To = true, -1 })
	with(func(s *api.Snapshot) { s.State.L[2] = topValue + 1 })
	with(func(s *api.Snapshot) { s.State.L = make([]int, 65) })
	with(func(s *api.Snapshot) { s.State.Kind, s.State.L = api.Store, []int{1} })
	with(func(s *api.Snapshot) { s.State.Kind, s.State.L = api.Store, []int{2, 0, 1, 0} })
	with(func(s *api.Snapshot) { s.State.Kind, s.State.L = api.Ledger, []int{2, -1} })
	for _, table := range slices.Concat(toldTables(), untoldTables()) {
		with(func(s *api.Snapshot) { s.Table = table })
	}
	return out
}

// chanceRecords are count records from first on, most of which do something to an object of that kind.
func chanceRecords(kind, first, count int) []api.Record {
	chance := rand.New(rand.NewPCG(5, uint64(kind))) // the same numbers in every run
	codes := [api.Kinds][]int{{api.Add, api.Get}, {api.Write, api.Get}, {api.Push, api.Push, api.Pop}, {api.Push, api.Push, api.Pop}, {api.Put, api.Delete, api.Get}, {api.Deposit, api.Move, api.Get}}
	var out []api.Record
	for i := range count {
		o := api.Op{Code: codes[kind][chance.IntN(len(codes[kind]))], A: chance.IntN(9), B: chance.IntN(9)}
		out = append(out, api.Record{Index: first + i, Proc: chance.IntN(20), Seq: i, Op: o})
	}
	return out
}

// states are an object's snapshots, one behind each of its records, the first one ahead of them; the last five are sealed.
func states(kind int) []api.Snapshot {
	l := chanceRecords(kind, 7, 60)
	l[55].Op = api.Op{Code: api.Seal, A: api.Psim}
	s := api.Snapshot{Index: 7, State: objs.Start(kind)}
	out := []api.Snapshot{s}
	for i := range l {
		s, _ = snapshot.Take(s, l[i:i+1])
		out = append(out, s)
	}
	return out
}

// noNumbers are bytes that begin with no number, neither of Get nor of GetSigned, whatever stands behind them.
func noNumbers() []string {
	return []string{"\x80\x00", "\xff\x80\x00", strings.Repeat("\x80", 9) + "\x02", strings.Repeat("\xff", 11)}
}

// noGets are bytes that begin with no number of Get.
func noGets() []string {
	return append(noNumbers(), strings.Repeat("\x80", 8)+"\x40", strings.Repeat("\x80", 9)+"\x01")
}

// spoil is data with one thing changed by chance.
func spoil(chance *rand.Rand, data string) string {
	few := []byte{0, 1, 2, 3, 4, 5, 9, 63, 64, 65, 127, 128, 129, 255}
	b := []byte(data)
	place := chance.IntN(len(b) + 1)
	if place == len(b) {
		return string(append(b, few[chance.IntN(len(few))]))
	}
	switch chance.IntN(4) {
	case 0:
		b[place] ^= 1 << chance.IntN(8)
	case 1:
		b[place] = few[chance.IntN(len(few))]
	case 2:
		b = slices.Delete(b, place, place+1)
	case 3:
		b = slices.Insert(b, place, few[chance.IntN(len(few))])
	}
	return string(b)
}

// spoiled hands out deltas of which something was changed: their data, with a sum that is right; or their frame.
func spoiled(each func(b string)) {
	chance := rand.New(rand.NewPCG(10, 10)) // the same numbers in every run
	for _, d := range slices.Concat(goodDeltas(), toldDeltas()) {
		data := plainData(d)
		each(framed(data))
		for range 100 {
			once := spoil(chance, data)
			each(framed(once))
			each(framed(spoil(chance, once)))
			each(framed(spoil(chance, data[:min(len(data), 12)]) + data[min(len(data), 12):]))
		}
		for range 20 {
			each(spoil(chance, framed(data)))
		}
	}
}
