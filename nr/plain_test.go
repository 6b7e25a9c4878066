package nr

import (
	"fmt"
	"math/rand/v2"
	"slices"
	"strings"
	"testing"

	"ferryman/api"
	"ferryman/objs"
)

const (
	least    = -1 << 63
	greatest = 1<<63 - 1
)

// nobody is no process: its accesses are no steps of any.
const nobody = -1

// which tells an operation from others: that process's how manieth it is.
type which struct{ proc, seq int }

// deed is an operation that was invoked: when that was, and when it was done (0 until then), with what came of it.
type deed struct {
	op               api.Op
	begin, end, resp int
}

// witness makes the calls of an engine, and holds what it answers against the chapter's words.
type witness struct {
	t      testing.TB
	e      *Engine
	start  api.State
	procs  int
	moment int // how many calls there were
	deeds  map[which]*deed
	last   []which // of each process; Seq 0 if it has none
	steps  []int   // of each process since its last Invoke
	log    []api.Record
	stands map[which]int // what came of each that stands in log
	state  api.State     // behind log
	script []call
}

// call is one that was made: an Invoke, or a Step.
type call struct {
	p       int
	invokes bool
	op      api.Op
}

func (c call) text() string {
	if c.invokes {
		return fmt.Sprintf("Invoke(%d, %v)", c.p, c.op)
	}
	return fmt.Sprintf("Step(%d)", c.p)
}

func newWitness(t testing.TB, start api.State, procs int) *witness {
	t.Helper()
	e, err := New(start, procs)
	if err != api.OK || e == nil {
		t.Fatalf("New(%v, %d): %v", start, procs, err)
	}
	w := &witness{t: t, e: e, start: start, procs: procs, deeds: map[which]*deed{}, stands: map[which]int{}, steps: make([]int, procs), state: start}
	for p := range procs {
		w.last = append(w.last, which{p, 0})
	}
	w.look()
	return w
}

func (w *witness) has(p int) bool { return 0 <= p && p < w.procs }

func (w *witness) busy(p int) bool {
	if !w.has(p) || w.last[p].seq == 0 {
		return false
	}
	return w.deeds[w.last[p]].end == 0
}

// begun is how many operations were begun, bound within how many rounds each of them is done if all step in turn.
func (w *witness) begun() int { return len(w.deeds) }

func (w *witness) bound() int { return 100 * (w.procs + 1) * (w.begun() + 1) }

func (w *witness) fail(form string, a ...any) {
	w.t.Helper()
	var script []string
	for _, c := range w.script[max(0, len(w.script)-60):] {
		script = append(script, c.text())
	}
	w.t.Fatalf("New(%v, %d), .. %s: %s", w.start, w.procs, strings.Join(script, ", "), fmt.Sprintf(form, a...))
}

// plainFits is Fits by the words of chapter 4.
func plainFits(o api.Op) bool {
	const most = 1 << 40
	return 0 <= o.Code && o.Code <= 10 && -most <= o.A && o.A <= most && -most <= o.B && o.B <= most
}

func (w *witness) invoke(p int, o api.Op) api.Errno {
	w.moment++
	w.script = append(w.script, call{p, true, o})
	wanted := api.OK
	if !w.has(p) || !plainFits(o) {
		wanted = api.ErrArg
	} else if w.busy(p) {
		wanted = api.ErrBusy
	}
	accesses, cells := w.accesses(), w.cells()
	if err := w.e.Invoke(p, o); err != wanted {
		w.fail("%v, want %v", err, wanted)
	}
	if !slices.Equal(w.accesses(), accesses) || !slices.Equal(w.cells(), cells) {
		w.fail("no step, and cells were %v, are %v", cells, w.cells())
	}
	if wanted == api.OK {
		w.last[p].seq++
		w.deeds[w.last[p]] = &deed{op: o, begin: w.moment}
		w.steps[p] = 0
	}
	w.look()
	return wanted
}

func (w *witness) step(p int) (int, bool) {
	w.moment++
	w.script = append(w.script, call{p: p})
	busy, accesses := w.busy(p), w.accesses()
	cells := w.cells()
	resp, done := w.e.Step(p)
	if !done && resp != 0 || done && !busy {
		w.fail("%d, %t", resp, done)
	}
	if busy {
		w.steps[p]++
		accesses[p]++
	}
	if got := w.accesses(); !slices.Equal(got, accesses) {
		w.fail("the processes had %v accesses, want %v", got, accesses)
	}
	if differ(cells, w.cells()) > 1 || !busy && differ(cells, w.cells()) > 0 {
		w.fail("cells were %v, are %v", cells, w.cells())
	}
	if done {
		d := w.deeds[w.last[p]]
		d.end, d.resp = w.moment, resp
	}
	w.look()
	return resp, done
}

// accesses is how many each process had of the machine's cells, and cells what all of these have.
func (w *witness) accesses() []int {
	var out []int
	for p := range w.procs {
		out = append(out, w.e.shared.memory.Steps(p))
	}
	return out
}

func (w *witness) cells() []int {
	const few = 100
	var out []int
	if w.e.shared.memory.Len() > few {
		return nil // in long scripts the first steps do
	}
	for cell := range w.e.shared.memory.Len() {
		out = append(out, w.cell(cell))
	}
	return out
}

func (w *witness) cell(at int) int { return w.e.shared.memory.Read(nobody, at) }

// differ is how many cells have changed: one that is new was nought.
func differ(ahead, now []int) int {
	count := 0
	for i, n := range now {
		if i < len(ahead) && n != ahead[i] || i >= len(ahead) && n != 0 {
			count++
		}
	}
	return count
}

// look asks that all that can be seen is as the chapter has it.
func (w *witness) look() {
	for _, p := range []int{least, -1, w.procs, w.procs + 1, greatest} {
		if w.e.Busy(p) || w.e.Steps(p) != 0 {
			w.fail("Busy(%d) %t, Steps(%d) %d", p, w.e.Busy(p), p, w.e.Steps(p))
		}
	}
	for p := range w.procs {
		if w.e.Busy(p) != w.busy(p) || w.e.Steps(p) != w.steps[p] {
			w.fail("Busy(%d) %t, Steps(%d) %d, want %t, %d", p, w.e.Busy(p), p, w.e.Steps(p), w.busy(p), w.steps[p])
		}
	}
	w.lookAtLog()
}

// lookAtLog: it has grown at its end alone, by operations that were invoked and did not stand there, and those that are done stand there.
func (w *witness) lookAtLog() {
	log := w.e.Log()
	if len(log) < len(w.log) || !slices.Equal(log[:len(w.log)], w.log) {
		w.fail("Log was %v, is %v", w.log, log)
	}
	for i, r := range log[len(w.log):] {
		d := w.deeds[which{r.Proc, r.Seq}]
		if d == nil {
			w.fail("Log has what nobody invoked: %v", r)
		}
		var resp int
		w.state, resp = objs.Step(w.state, d.op)
		if wanted := (api.Record{Index: len(w.log) + i, Proc: r.Proc, Seq: r.Seq, Op: d.op, Resp: resp}); r != wanted {
			w.fail("Log has %v, want %v", r, wanted)
		}
		if _, twice := w.stands[which{r.Proc, r.Seq}]; twice {
			w.fail("Log has twice: %v", r)
		}
		w.stands[which{r.Proc, r.Seq}] = resp
	}
	w.log = log
	if s := w.e.State(); !objs.Same(s, w.state) {
		w.fail("State %v, want %v", s, w.state)
	}
	for p := range w.procs {
		if d := w.deeds[w.last[p]]; d != nil && d.end != 0 {
			w.wantStands(w.last[p], d.resp)
		}
	}
}

// wantStands asks that an operation of which that was told to have come stands in Log, with that.
func (w *witness) wantStands(of which, resp int) {
	if got, stands := w.stands[of]; !stands || got != resp {
		w.fail("process %d was told %d of its operation %d; it stands in Log: %t, with %d", of.proc, resp, of.seq, stands, got)
	}
}

// whole asks, in the end, that all of Log is what Fold says, that all that is done stands there, and that none stands ahead of one that was done ahead of its Invoke.
func (w *witness) whole() {
	var ops []api.Op
	for _, r := range w.log {
		ops = append(ops, r.Op)
	}
	state, resps := objs.Fold(w.start, ops)
	for i, r := range w.log {
		if r.Resp != resps[i] {
			w.fail("Log has %v, and of Fold comes %d", r, resps[i])
		}
	}
	if !objs.Same(state, w.e.State()) {
		w.fail("State %v, and of Fold comes %v", w.e.State(), state)
	}
	for of, d := range w.deeds {
		if d.end != 0 {
			w.wantStands(of, d.resp)
		}
	}
	w.inOrder()
}

func (w *witness) inOrder() {
	latest := 0
	for _, r := range w.log {
		d := w.deeds[which{r.Proc, r.Seq}]
		if d.end != 0 && d.end < latest {
			w.fail("%v was done ahead of an Invoke, and its operation stands ahead in %v", r, w.log)
		}
		latest = max(latest, d.begin)
	}
}

// alone lets a process go on until its operation is done, while nobody else is within one: what comes of it.
func (w *witness) alone(p int) int {
	w.t.Helper()
	for range w.bound() {
		if resp, done := w.step(p); done {
			return resp
		}
		if !w.busy(p) {
			return 0
		}
	}
	w.fail("process %d alone is not done", p)
	return 0
}

// all lets all processes step in turn until none is busy.
func (w *witness) all() {
	w.t.Helper()
	w.inTurn(inTurn(w.procs, 0, 1))
}

// inTurn is an order of all processes, from one on.
func inTurn(procs, from, by int) []int {
	var out []int
	for i := range procs {
		out = append(out, ((from+i*by)%procs+procs)%procs)
	}
	return out
}

// inTurn lets all processes step in an order, again and again, until none is busy: each operation is done within its rounds, and Log has all.
func (w *witness) inTurn(order []int) {
	w.t.Helper()
	for rounds := 0; slices.ContainsFunc(order, w.busy); rounds++ {
		if rounds == w.bound() {
			w.fail("not all are done within %d rounds", rounds)
		}
		for _, p := range order {
			w.step(p)
		}
	}
	w.whole()
	if len(w.log) != w.begun() {
		w.fail("all %d are done, and Log has %d", w.begun(), len(w.log))
	}
}

// chanceOp is an operation of any code, with numbers as the objects have them, and now and then others.
func chanceOp(chance *rand.Rand) api.Op {
	code := chance.IntN(10)
	if chance.IntN(200) == 0 {
		code = api.Seal
	}
	number := func() int {
		switch chance.IntN(8) {
		case 0:
			return chance.IntN(1 << 16)
		case 1:
			return []int{-1 << 40, 1 << 40, -1, 255, 256, 1<<16 - 1, 1 << 16}[chance.IntN(7)]
		}
		return chance.IntN(4)
	}
	return api.Op{Code: code, A: number(), B: number()}
}

// wrongOps are operations that do not fit.
func wrongOps() []api.Op {
	return []api.Op{
		{Code: -1}, {Code: 11}, {Code: least}, {Code: greatest},
		{A: -1<<40 - 1}, {A: 1<<40 + 1}, {A: least}, {A: greatest},
		{B: -1<<40 - 1}, {B: 1<<40 + 1}, {B: least}, {B: greatest},
		{Code: api.Seal, A: greatest}, {Code: 11, A: least, B: greatest},
	}
}
