package psim

import (
	"fmt"
	"math/rand/v2"
	"reflect"
	"runtime"
	"slices"
	"testing"

	"ferryman/api"
	"ferryman/objs"
)

// plan is what each process is to do, one operation behind the other.
type plan struct {
	start api.State
	ops   [][]api.Op
}

// act lets a process go on: by a step, or by its next Invoke, if it is not busy.
func (w *witness) act(of plan, p int) {
	if w.busy(p) {
		w.step(p)
		return
	}
	w.invoke(p, of.ops[p][w.last[p].seq])
}

// may tells whether the plan has something more for a process.
func (w *witness) may(of plan, p int) bool { return w.busy(p) || w.last[p].seq < len(of.ops[p]) }

func behind(t testing.TB, of plan, path []int) *witness {
	t.Helper()
	w := newWitness(t, of.start, len(of.ops))
	for _, p := range path {
		w.act(of, p)
	}
	return w
}

// print tells all that anything later can hang on: the cells, what each process knows and does next, and which operations were done ahead of which Invoke.
func (w *witness) print() string {
	out := fmt.Sprint(w.cells(), w.log, w.e.shared.object, w.e.shared.ops)
	for _, p := range w.e.procs {
		next := ""
		if p.next != nil {
			next = runtime.FuncForPC(reflect.ValueOf(p.next).Pointer()).Name()
		}
		out += fmt.Sprint(next, w.e.Steps(p.number), p.seq, p.op, p.from, p.mine, p.asked)
	}
	var ahead []string
	for of, d := range w.deeds {
		for other, o := range w.deeds {
			if o.end != 0 && o.end < d.begin {
				ahead = append(ahead, fmt.Sprint(other, of))
			}
		}
	}
	slices.Sort(ahead)
	return out + fmt.Sprint(ahead)
}

// eachOrder goes through all orders in which processes can do what is planned, and stop for ever anywhere: orders that lead to the same are gone on with once.
func eachOrder(t *testing.T, of plan, does func(path []int)) {
	t.Helper()
	seen := map[string]bool{}
	paths := [][]int{nil}
	for len(paths) > 0 {
		path := paths[len(paths)-1]
		paths = paths[:len(paths)-1]
		w := behind(t, of, path)
		if print := w.print(); !seen[print] {
			seen[print] = true
			does(path)
			for p := range of.ops {
				if w.may(of, p) {
					paths = append(paths, append(slices.Clone(path), p))
				}
			}
		}
	}
	t.Logf("%v: %d", of, len(seen))
}

// P16.2 to P16.5: all orders of steps of few processes with few operations, who stop for ever anywhere: each of the others is done all the same, within its bound.
func TestAllOrders(t *testing.T) {
	queue, counter := objs.Start(api.Queue), objs.Start(api.Counter)
	pop, seal := api.Op{Code: api.Pop}, api.Op{Code: api.Seal, A: 1}
	for _, of := range []plan{
		{counter, [][]api.Op{{add(1), add(2), add(4)}}},
		{counter, [][]api.Op{{add(1)}, {add(2)}}},
		{queue, [][]api.Op{{push(5), pop}, {pop}}},
		{queue, [][]api.Op{{push(5)}, {seal}}},
		{counter, [][]api.Op{{add(1), add(2), add(4)}, {add(8), add(16)}}},
		{queue, [][]api.Op{{push(5)}, {push(6)}, {pop}}},
	} {
		eachOrder(t, of, func(path []int) {
			for p := range of.ops {
				w := behind(t, of, path)
				w.alone(p)
				w.all()
			}
		})
	}
}

// P16.5: what copyObject says of itself: it comes three times at most, and in some orders it does.
func TestThreeCopiesAtMost(t *testing.T) {
	most := func(procs int) int { return 1 + 2*(1+procs+1) + 1 }
	of := plan{objs.Start(api.Counter), [][]api.Op{{add(1), add(2)}, {add(4)}}}
	longest := 0
	eachOrder(t, of, func(path []int) { longest = max(longest, slices.Max(behind(t, of, path).steps)) })
	want(t, "the most steps of an operation in all orders", longest, most(2))
	for _, procs := range counts() {
		chance := rand.New(rand.NewPCG(16, uint64(procs))) // the same numbers in every run
		for _, next := range pickers(chance, procs) {
			e, _ := New(objs.Start(api.Counter), procs)
			for range 100 * procs {
				p := next()
				hurry(e, p, -1)
				if e.Steps(p) > most(procs) {
					t.Fatalf("%d processes: %d steps, and at most %d may be", procs, e.Steps(p), most(procs))
				}
			}
		}
	}
}

// longest is how many steps one of few processes takes for one operation at most, Invoke among them.
func longest(t *testing.T, of plan) int {
	t.Helper()
	w := behind(t, of, nil)
	for p := range of.ops {
		w.act(of, p)
		w.alone(p)
	}
	return slices.Max(w.steps) + 8 // others may have it go further
}

// P16.2 to P16.5: three processes, of whom one goes on for a while, then another, and then the rest in each order, or in turn.
func TestOrdersOfThree(t *testing.T) {
	of := plan{objs.Start(api.Stack), [][]api.Op{{push(1)}, {push(2)}, {push(3)}}}
	orders := [][]int{{0, 1, 2}, {0, 2, 1}, {1, 0, 2}, {1, 2, 0}, {2, 0, 1}, {2, 1, 0}}
	most := longest(t, of)
	for _, order := range orders {
		for a := range most {
			for b := range most {
				path := slices.Concat(slices.Repeat(order[:1], a), slices.Repeat(order[1:2], b))
				for _, rest := range orders {
					goOn(t, of, path, func(w *witness) { alone(w, of, rest) })
				}
				goOn(t, of, path, func(w *witness) { inTurn(w, of, order) })
			}
		}
	}
}

// goOn begins with those steps of a path that the plan has, and goes on from there.
func goOn(t *testing.T, of plan, path []int, does func(w *witness)) {
	t.Helper()
	w := behind(t, of, nil)
	for _, p := range path {
		if w.may(of, p) {
			w.act(of, p)
		}
	}
	does(w)
	w.whole()
	want(t, "all are in Log", len(w.log), len(of.ops))
}

func alone(w *witness, of plan, order []int) {
	for _, p := range order {
		for w.may(of, p) {
			w.act(of, p)
		}
	}
}

func inTurn(w *witness, of plan, order []int) {
	for slices.ContainsFunc(order, func(p int) bool { return w.may(of, p) }) {
		for _, p := range order {
			if w.may(of, p) {
				w.act(of, p)
			}
		}
	}
}
