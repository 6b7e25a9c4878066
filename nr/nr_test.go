package nr

import (
	"fmt"
	"math/rand/v2"
	"slices"
	"testing"

	"ferryman/api"
	"ferryman/objs"
)

func want[T comparable](t *testing.T, what string, got, wanted T) {
	t.Helper()
	if got != wanted {
		t.Errorf("%s: %v, want %v", what, got, wanted)
	}
}

func add(n int) api.Op { return api.Op{Code: api.Add, A: n} }

func push(n int) api.Op { return api.Op{Code: api.Push, A: n} }

// counts is how many processes the engines of most tests have.
func counts() []int { return []int{1, 2, 3, 4, 5, 8, 17, 64} }

// P17.1, P17.2, P17.3: the chapter's example.
func TestTheExample(t *testing.T) {
	e, err := New(objs.Start(api.Counter), 2)
	want(t, "New(counter 0, 2)", err, api.OK)
	want(t, "Invoke(0, Add 5)", e.Invoke(0, add(5)), api.OK)
	resp, done := e.Step(0)
	for range 1000 {
		if done {
			break
		}
		want(t, "Step(0) until it is done", resp, 0)
		resp, done = e.Step(0)
	}
	want(t, "it is done", done, true)
	want(t, "what came of it", resp, 0)
	want(t, "State is the counter 5", objs.Same(e.State(), api.State{Kind: api.Counter, L: []int{5}}), true)
	want(t, "Log is that alone", slices.Equal(e.Log(), []api.Record{{Index: 0, Proc: 0, Seq: 1, Op: add(5), Resp: 0}}), true)
}

// P17.1: how many processes there may be.
func TestHowManyProcesses(t *testing.T) {
	for _, procs := range []int{least, -1 << 40, -64, -2, -1, 0, 65, 66, 128, 1 << 20, 1 << 40, 1 << 62, greatest} {
		e, err := New(objs.Start(api.Counter), procs)
		want(t, fmt.Sprintf("New(counter 0, %d)", procs), err, api.ErrArg)
		want(t, fmt.Sprintf("New(counter 0, %d) is nil", procs), e == nil, true)
	}
	for procs := 1; procs <= 64; procs++ {
		w := newWitness(t, objs.Start(api.Counter), procs)
		want(t, "Log at the beginning", len(w.e.Log()), 0)
		for p := range procs {
			w.step(p)
		}
		want(t, "Log behind steps of those who are not busy", len(w.e.Log()), 0)
		w.invoke(procs-1, add(7))
		want(t, "what comes of the last one's Add", w.alone(procs-1), 0)
		w.whole()
	}
}

// P17.1: with which states it may begin; it is what objs tells.
func TestWithWhatItBegins(t *testing.T) {
	wrong := []api.State{
		{}, {Kind: api.Counter}, {Kind: -1, L: []int{0}}, {Kind: api.Kinds}, {Kind: least}, {Kind: greatest, L: []int{0}},
		{Kind: api.Counter, L: []int{1, 2}}, {Kind: api.Register, L: []int{1<<40 + 1}}, {Kind: api.Register, L: []int{-1<<40 - 1}},
		{Kind: api.Counter, L: []int{0}, To: 1}, {Kind: api.Counter, L: []int{0}, Sealed: true, To: 3}, {Kind: api.Counter, L: []int{0}, Sealed: true, To: -1},
		{Kind: api.Queue, L: make([]int, 65)}, {Kind: api.Stack, L: make([]int, 65)}, {Kind: api.Queue, L: []int{greatest}},
		{Kind: api.Store, L: []int{1}}, {Kind: api.Store, L: []int{2, 0, 1, 0}}, {Kind: api.Store, L: []int{256, 0}}, {Kind: api.Store, L: []int{-1, 0}},
		{Kind: api.Ledger, L: []int{1, -1}}, {Kind: api.Ledger, L: []int{1, 5, 1, 5}},
	}
	for _, s := range wrong {
		for _, procs := range []int{1, 2, 64, 0, 65} {
			e, err := New(s, procs)
			want(t, fmt.Sprintf("New(%v, %d)", s, procs), err, api.ErrArg)
			want(t, fmt.Sprintf("New(%v, %d) is nil", s, procs), e == nil, true)
		}
	}
	right := []api.State{
		{Kind: api.Counter, L: []int{-1 << 40}}, {Kind: api.Register, L: []int{1 << 40}}, {Kind: api.Queue, L: make([]int, 64)}, {Kind: api.Stack, L: []int{3, -4}},
		{Kind: api.Store, L: []int{0, -9, 255, 9}}, {Kind: api.Ledger, L: []int{0, 0, 7, 1 << 40}}, {Kind: api.Queue, L: []int{}},
		{Kind: api.Counter, L: []int{4}, Sealed: true}, {Kind: api.Store, L: []int{4, 4}, Sealed: true, To: 2},
	}
	for _, s := range right {
		for _, procs := range []int{1, 2, 64} {
			w := newWitness(t, s, procs)
			w.invoke(0, api.Op{Code: api.Get, A: 7})
			w.all()
		}
	}
}

// edges are processes that there are, and that there are not.
func edges(procs int) []int {
	return []int{least, -1 << 40, -procs, -2, -1, 0, procs / 2, procs - 1, procs, procs + 1, 64, 65, 1 << 20, 1 << 40, 1 << 62, greatest - 1, greatest}
}

// P17.1, P17.2: which processes there are, whether they are busy, and which of Invoke's errors comes first.
func TestInvokeAtItsEdges(t *testing.T) {
	for _, procs := range counts() {
		for _, p := range edges(procs) {
			w := newWitness(t, objs.Start(api.Counter), procs)
			w.step(p)
			for _, o := range wrongOps() {
				w.invoke(p, o)
			}
			w.invoke(p, add(3))
			for _, o := range wrongOps() {
				w.invoke(p, o) // ErrArg, though it is busy
			}
			w.invoke(p, add(4))
			w.step(p)
			w.invoke(p, add(4))
			w.invoke(p, wrongOps()[0])
			w.alone(p)
			w.step(p)
			w.invoke(p, add(1<<40))
			w.all()
		}
	}
}

// P17.1: just the operations that fit may be begun, and the codes that an object does not have do nothing.
func TestWhichOperations(t *testing.T) {
	for kind := range api.Kinds {
		w := newWitness(t, objs.Start(kind), 2)
		for code := -2; code <= 12; code++ {
			for _, n := range []int{-1<<40 - 1, -1 << 40, -1, 0, 1, 1 << 40, 1<<40 + 1} {
				if code == api.Seal {
					continue
				}
				w.invoke(0, api.Op{Code: code, A: n})
				w.alone(0)
				w.invoke(1, api.Op{Code: code, A: 1, B: n})
				w.alone(1)
			}
		}
		w.whole()
	}
}

// P17.1, P17.3: Seq is which of the Invokes that were OK it was: the others don't count, and leave what is under way as it was.
func TestSeqCountsWhatWasOK(t *testing.T) {
	e, _ := New(objs.Start(api.Counter), 2)
	e.Invoke(0, api.Op{Code: 11})
	e.Invoke(0, add(1))
	e.Invoke(0, add(50))
	e.Step(0)
	e.Invoke(0, add(60))
	e.Invoke(0, api.Op{A: greatest})
	for e.Busy(0) {
		e.Step(0)
	}
	e.Invoke(0, add(2))
	e.Invoke(0, add(70))
	for e.Busy(0) {
		e.Step(0)
	}
	wanted := []api.Record{{Index: 0, Proc: 0, Seq: 1, Op: add(1), Resp: 0}, {Index: 1, Proc: 0, Seq: 2, Op: add(2), Resp: 1}}
	if got := e.Log(); !slices.Equal(got, wanted) {
		t.Errorf("Log %v, want %v", got, wanted)
	}
}

// P17.2: Steps is 0 until the first step, one more with each, stays behind the end, and is 0 anew behind the next Invoke.
func TestSteps(t *testing.T) {
	for _, procs := range counts() {
		e, _ := New(objs.Start(api.Queue), procs)
		p := procs - 1
		want(t, "Steps ahead of the first Invoke", e.Steps(p), 0)
		for round := range 3 {
			want(t, "Invoke", e.Invoke(p, push(round)), api.OK)
			want(t, "Steps behind Invoke", e.Steps(p), 0)
			count := 0
			for e.Busy(p) {
				e.Step(p)
				count++
				want(t, "Steps under way", e.Steps(p), count)
				e.Invoke(p, api.Op{Code: -1})
				want(t, "Steps behind an Invoke that is not OK", e.Steps(p), count)
			}
			want(t, "an operation takes more than a step", count > 1, true)
			e.Step(p)
			want(t, "Steps behind a Step that is none", e.Steps(p), count)
		}
	}
}

// P17.1, P17.2, P17.3: nothing that is asked changes anything, however often, at no moment.
func TestAskingChangesNothing(t *testing.T) {
	asked, unasked := newWitness(t, objs.Start(api.Stack), 3), newWitness(t, objs.Start(api.Stack), 3)
	for i := range 60 {
		for p := range 3 {
			asked.invoke(p, push(i))
			unasked.e.Invoke(p, push(i))
			resp, done := asked.step((i + p) % 3)
			want(t, "what comes of a step", fmt.Sprint(resp, done), fmt.Sprint(unasked.e.Step((i+p)%3)))
			for range 3 {
				asked.look()
			}
		}
	}
	want(t, "Log is the same", slices.Equal(asked.e.Log(), unasked.e.Log()), true)
}

// chanceState is an object of a kind behind some operations.
func chanceState(chance *rand.Rand, kind int) api.State {
	var ops []api.Op
	for range chance.IntN(80) {
		if o := chanceOp(chance); o.Code != api.Seal {
			ops = append(ops, o)
		}
	}
	s, _ := objs.Fold(objs.Start(kind), ops)
	return s
}

// P17.2, P17.3, P17.4: operations one behind the other, each by one process that goes on alone: what Fold says comes of them.
func TestOneBehindTheOther(t *testing.T) {
	chance := rand.New(rand.NewPCG(17, 1)) // the same numbers in every run
	for kind := range api.Kinds {
		for _, procs := range counts() {
			start := chanceState(chance, kind)
			w := newWitness(t, start, procs)
			var ops []api.Op
			var resps []int
			for range 150 {
				o := chanceOp(chance)
				p := chance.IntN(procs)
				w.invoke(p, o)
				ops, resps = append(ops, o), append(resps, w.alone(p))
			}
			w.whole()
			state, wanted := objs.Fold(start, ops)
			if !slices.Equal(resps, wanted) || !objs.Same(w.e.State(), state) {
				t.Errorf("New(%v, %d), %v: %v, %v, want %v, %v", start, procs, ops, resps, w.e.State(), wanted, state)
			}
		}
	}
}

// P17.3, P17.4: a seal among the operations: what comes behind it is Void, and changes nothing.
func TestSeal(t *testing.T) {
	for kind := range api.Kinds {
		for engine := -1; engine <= 3; engine++ {
			w := newWitness(t, objs.Start(kind), 2)
			w.invoke(0, push(4))
			w.alone(0)
			ahead := w.e.State()
			w.invoke(1, api.Op{Code: api.Seal, A: engine})
			want(t, "what comes of a seal", w.alone(1), 0)
			sealed := w.e.State()
			want(t, "it is sealed", sealed.Sealed, true)
			want(t, "its numbers stay", slices.Equal(sealed.L, ahead.L), true)
			for p, o := range []api.Op{push(5), {Code: api.Seal, A: 2}} {
				w.invoke(p, o)
				want(t, "what comes behind a seal", w.alone(p), api.Void)
			}
			want(t, "what is sealed stays", objs.Same(w.e.State(), sealed), true)
			want(t, "the void ones stand in Log", len(w.e.Log()), 4)
			w.whole()
		}
	}
}

// P17.3: Log and State ahead of any step, and while an operation is under way: it has taken effect at some moment between, once.
func TestLogWhileItIsUnderWay(t *testing.T) {
	start := api.State{Kind: api.Queue, L: []int{8}}
	w := newWitness(t, start, 2)
	w.invoke(0, push(9))
	want(t, "Log ahead of any step", len(w.e.Log()), 0)
	want(t, "State ahead of any step", objs.Same(w.e.State(), start), true)
	sizes := []int{0}
	for w.busy(0) {
		w.step(0)
		sizes = append(sizes, len(w.e.Log()))
	}
	want(t, "Log grows by one alone", sizes[len(sizes)-1], 1)
	want(t, "Log grows only", slices.IsSorted(sizes), true)
	w.whole()
}
