package nr

import (
	"fmt"
	"math/rand/v2"
	"reflect"
	"runtime"
	"slices"
	"testing"

	"ferryman/api"
	"ferryman/objs"
)

// plan is what each process is to do, one operation behind the other.
type plan struct {
	start api.State
	ops   [][]api.Op
}

// act lets a process go on: by a step, or by its next Invoke, if it is not busy.
func (w *witness) act(of plan, p int) {
	if w.busy(p) {
		w.step(p)
		return
	}
	w.invoke(p, of.ops[p][w.last[p].seq])
}

// may tells whether the plan has something more for a process.
func (w *witness) may(of plan, p int) bool { return w.busy(p) || w.last[p].seq < len(of.ops[p]) }

func behind(t testing.TB, of plan, path []int) *witness {
	t.Helper()
	w := newWitness(t, of.start, len(of.ops))
	for _, p := range path {
		w.act(of, p)
	}
	return w
}

// print tells all that anything later can hang on: the cells, what each process knows and does next, and which operations were done ahead of which Invoke.
func (w *witness) print() string {
	out := fmt.Sprint(w.cells(), w.log, w.e.shared.ops, w.e.shared.resps)
	for _, r := range w.e.shared.replicas {
		out += fmt.Sprint(*r)
	}
	for _, p := range w.e.procs {
		next := ""
		if p.next != nil {
			next = runtime.FuncForPC(reflect.ValueOf(p.next).Pointer()).Name()
		}
		out += fmt.Sprint(next, p.seq, p.op)
		if w.cell(p.replica.lock) == 1+p.number {
			out += fmt.Sprint(p.serves, p.record) // else nothing hangs on them
		}
	}
	var ahead []string
	for of, d := range w.deeds {
		for other, o := range w.deeds {
			if o.end != 0 && o.end < d.begin {
				ahead = append(ahead, fmt.Sprint(other, of))
			}
		}
	}
	slices.Sort(ahead)
	return out + fmt.Sprint(ahead)
}

// eachOrder goes through all orders in which processes can do what is planned, and stop for ever anywhere: orders that lead to the same are gone on with once.
func eachOrder(t *testing.T, of plan, does func(path []int)) {
	t.Helper()
	seen := map[string]bool{}
	paths := [][]int{nil}
	for len(paths) > 0 {
		path := paths[len(paths)-1]
		paths = paths[:len(paths)-1]
		w := behind(t, of, path)
		if print := w.print(); !seen[print] {
			seen[print] = true
			does(path)
			for p := range of.ops {
				if w.may(of, p) {
					paths = append(paths, append(slices.Clone(path), p))
				}
			}
		}
	}
	t.Logf("%v: %d", of, len(seen))
}

// P17.2 to P17.5: all orders of steps of few processes with few operations, of one group and of two, who stop anywhere: when all step in turn from there on, each operation is done within its rounds.
func TestAllOrders(t *testing.T) {
	queue, counter := objs.Start(api.Queue), objs.Start(api.Counter)
	pop, seal := api.Op{Code: api.Pop}, api.Op{Code: api.Seal, A: 1}
	for _, of := range []plan{
		{counter, [][]api.Op{{add(1), add(2), add(4)}}},
		{counter, [][]api.Op{{add(1)}, {add(2)}}},
		{queue, [][]api.Op{{push(5), pop}, {pop}}},
		{queue, [][]api.Op{{push(5)}, {seal}}},
		{counter, [][]api.Op{{add(1), add(2), add(4)}, {add(8), add(16)}}},
		{queue, [][]api.Op{{push(5)}, {push(6)}, {pop}}},
		{counter, [][]api.Op{{add(1)}, {}, {}, {}, {add(2)}}},
		{queue, [][]api.Op{{push(5), pop}, {}, {}, {}, {pop, push(6)}}},
		{queue, [][]api.Op{{}, {seal}, {}, {}, {push(5)}}},
		{counter, [][]api.Op{{add(1)}, {add(2)}, {}, {}, {add(4)}}},
	} {
		procs := len(of.ops)
		eachOrder(t, of, func(path []int) {
			behind(t, of, path).inTurn(inTurn(procs, 0, 1))
			behind(t, of, path).inTurn(inTurn(procs, -1, -1))
		})
	}
}

// P17.2 to P17.5: three processes, of one group, of two, and of three, of whom one goes on for a while, then another, and then all in turn, until they have done all that they are to do.
func TestOrdersOfThree(t *testing.T) {
	const most = 28 // steps of one alone, and some in which it waits
	for _, who := range [][]int{{0, 1, 2}, {0, 1, 4}, {3, 4, 5}, {0, 4, 8}} {
		of := plan{objs.Start(api.Stack), make([][]api.Op, who[2]+1)}
		for _, p := range who {
			of.ops[p] = []api.Op{push(p), push(10 + p)}
		}
		for _, order := range [][]int{{0, 1, 2}, {0, 2, 1}, {1, 0, 2}, {1, 2, 0}, {2, 0, 1}, {2, 1, 0}} {
			for a := range most {
				for b := range most {
					path := slices.Concat(slices.Repeat([]int{who[order[0]]}, a), slices.Repeat([]int{who[order[1]]}, b))
					goOn(t, of, path, inTurn(len(of.ops), who[order[2]], 1-a%2*2))
				}
			}
		}
	}
}

// goOn begins with those steps of a path that the plan has, and goes on in turn.
func goOn(t *testing.T, of plan, path, order []int) {
	t.Helper()
	w := behind(t, of, nil)
	for _, p := range path {
		if w.may(of, p) {
			w.act(of, p)
		}
	}
	for rounds := 0; slices.ContainsFunc(order, func(p int) bool { return w.may(of, p) }); rounds++ {
		if rounds > w.bound() {
			w.fail("not all are done within %d rounds", rounds)
		}
		for _, p := range order {
			if w.may(of, p) {
				w.act(of, p)
			}
		}
	}
	w.whole()
	want(t, "all are in Log", len(w.log), 6)
}

// waits is how many had the lock since a process asked, until it was answered, and how many steps it did from then on without the lock.
type waits struct {
	e                  *Engine
	since, late        []int
	mostSince, longest int
}

func newWaits(start api.State, procs int) *waits {
	e, _ := New(start, procs)
	return &waits{e: e, since: make([]int, procs), late: make([]int, procs)}
}

func (w *waits) cell(at int) int { return w.e.shared.memory.Read(nobody, at) }

func (w *waits) answered(p int) bool {
	return w.cell(w.e.shared.answered+p) == w.e.procs[p].seq
}

// step is one of the engine.
func (w *waits) step(p int) {
	own := w.e.procs[p]
	asked, lock, answered := w.cell(w.e.shared.asked+p), w.cell(own.replica.lock), w.answered(p)
	w.e.Step(p)
	if w.cell(w.e.shared.asked+p) != asked {
		w.since[p] = min(lock, 1)
	}
	now := w.cell(own.replica.lock)
	if now != lock && now != free {
		w.took(p)
	}
	if !answered || lock == 1+p || now == 1+p {
		w.late[p] = 0
		return
	}
	w.late[p]++
	w.longest = max(w.longest, w.late[p])
}

// took is for all others who wait for the lock that p has now.
func (w *waits) took(p int) {
	for q := w.e.procs[p].replica.first; q < w.e.procs[p].replica.end; q++ {
		if q != p && w.cell(w.e.shared.asked+q) == w.e.procs[q].seq && !w.answered(q) {
			w.since[q]++
			w.mostSince = max(w.mostSince, w.since[q])
		}
	}
}

// P17.5: what takeLock says of itself: who waits, waits for two who have the lock at most, and for two now and then; and behind its answer for none.
func TestTwoAtMostHaveTheLock(t *testing.T) {
	for _, procs := range counts()[1:] {
		chance := rand.New(rand.NewPCG(17, uint64(procs))) // the same numbers in every run
		most, longest := 0, 0
		for _, next := range pickers(chance, procs) {
			w := newWaits(objs.Start(api.Counter), procs)
			for range 300 * procs {
				p := next()
				w.e.Invoke(p, add(1))
				w.step(p)
			}
			most, longest = max(most, w.mostSince), max(longest, w.longest)
		}
		want(t, fmt.Sprintf("%d processes: for how many one waits at most", procs), most, 2)
		want(t, fmt.Sprintf("%d processes: how many steps one does behind its answer", procs), longest, 2)
	}
}
