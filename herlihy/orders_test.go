package herlihy

import (
	"fmt"
	"reflect"
	"runtime"
	"slices"
	"testing"

	"ferryman/api"
	"ferryman/objs"
)

// plan is what each process is to do, one operation behind the other.
type plan struct {
	start api.State
	ops   [][]api.Op
}

// act lets a process go on: by a step, or by its next Invoke, if it is not busy.
func (w *witness) act(of plan, p int) {
	if w.busy(p) {
		w.step(p)
		return
	}
	w.invoke(p, of.ops[p][w.last[p].seq])
}

// may tells whether the plan has something more for a process.
func (w *witness) may(of plan, p int) bool { return w.busy(p) || w.last[p].seq < len(of.ops[p]) }

func behind(t testing.TB, of plan, path []int) *witness {
	t.Helper()
	w := newWitness(t, of.start, len(of.ops))
	for _, p := range path {
		w.act(of, p)
	}
	return w
}

// print tells all that anything later can hang on: the cells, what each process knows and does next, and which operations were done ahead of which Invoke.
func (w *witness) print() string {
	out := fmt.Sprint(w.cells(), w.log)
	for _, p := range w.e.procs {
		next := ""
		if p.next != nil {
			next = runtime.FuncForPC(reflect.ValueOf(p.next).Pointer()).Name()
		}
		out += fmt.Sprint(next, w.e.Steps(p.number), p.seq, p.own, p.at, p.place, p.asked, p.other, p.wanted)
	}
	var ahead []string
	for of, d := range w.deeds {
		for other, o := range w.deeds {
			if o.end != 0 && o.end < d.begin {
				ahead = append(ahead, fmt.Sprint(other, of))
			}
		}
	}
	slices.Sort(ahead)
	return out + fmt.Sprint(ahead)
}

// eachOrder goes through all orders in which processes can do what is planned, and stop for ever anywhere: orders that lead to the same are gone on with once.
func eachOrder(t *testing.T, of plan, does func(path []int)) {
	t.Helper()
	seen := map[string]bool{}
	paths := [][]int{nil}
	for len(paths) > 0 {
		path := paths[len(paths)-1]
		paths = paths[:len(paths)-1]
		w := behind(t, of, path)
		if print := w.print(); !seen[print] {
			seen[print] = true
			does(path)
			for p := range of.ops {
				if w.may(of, p) {
					paths = append(paths, append(slices.Clone(path), p))
				}
			}
		}
	}
	t.Logf("%v: %d", of, len(seen))
}

// P15.2 to P15.5: all orders of steps of few processes with few operations, who stop for ever anywhere: each of the others is done all the same, within its bound.
func TestAllOrders(t *testing.T) {
	queue, counter := objs.Start(api.Queue), objs.Start(api.Counter)
	pop, seal := api.Op{Code: api.Pop}, api.Op{Code: api.Seal, A: 1}
	for _, of := range []plan{
		{counter, [][]api.Op{{add(1), add(2), add(4)}}},
		{counter, [][]api.Op{{add(1)}, {add(2)}}},
		{queue, [][]api.Op{{push(5), pop}, {pop}}},
		{queue, [][]api.Op{{push(5)}, {seal}}},
	} {
		eachOrder(t, of, func(path []int) {
			for p := range of.ops {
				w := behind(t, of, path)
				w.alone(p)
				w.all()
			}
		})
	}
}

// longest is how many steps one of few processes takes for one operation at most, Invoke among them.
func longest(t *testing.T, of plan) int {
	t.Helper()
	w := behind(t, of, nil)
	for p := range of.ops {
		w.act(of, p)
		w.alone(p)
	}
	return slices.Max(w.steps) + 8 // others may have it go further
}

// P15.2 to P15.5: three processes, of whom one goes on for a while, then another, and then the rest in each order, or in turn.
func TestOrdersOfThree(t *testing.T) {
	of := plan{objs.Start(api.Stack), [][]api.Op{{push(1)}, {push(2)}, {push(3)}}}
	orders := [][]int{{0, 1, 2}, {0, 2, 1}, {1, 0, 2}, {1, 2, 0}, {2, 0, 1}, {2, 1, 0}}
	most := longest(t, of)
	for _, order := range orders {
		for a := range most {
			for b := range most {
				path := slices.Concat(slices.Repeat(order[:1], a), slices.Repeat(order[1:2], b))
				for _, rest := range orders {
					goOn(t, of, path, func(w *witness) { alone(w, of, rest) })
				}
				goOn(t, of, path, func(w *witness) { inTurn(w, of, order) })
			}
		}
	}
}

// goOn begins with those steps of a path that the plan has, and goes on from there.
func goOn(t *testing.T, of plan, path []int, does func(w *witness)) {
	t.Helper()
	w := behind(t, of, nil)
	for _, p := range path {
		if w.may(of, p) {
			w.act(of, p)
		}
	}
	does(w)
	w.whole()
	want(t, "all are in Log", len(w.log), len(of.ops))
}

func alone(w *witness, of plan, order []int) {
	for _, p := range order {
		for w.may(of, p) {
			w.act(of, p)
		}
	}
}

func inTurn(w *witness, of plan, order []int) {
	for slices.ContainsFunc(order, func(p int) bool { return w.may(of, p) }) {
		for _, p := range order {
			if w.may(of, p) {
				w.act(of, p)
			}
		}
	}
}
