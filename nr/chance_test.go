package nr

import (
	"fmt"
	"math/rand/v2"
	"testing"

	"ferryman/api"
	"ferryman/objs"
)

// picker tells who goes on next.
type picker func() int

// pickers are ways in which processes may go on: by chance, some of them much more often than others, for a while each, in turn, and all but one.
func pickers(chance *rand.Rand, procs int) []picker {
	turn, who, left := 0, 0, 0
	return []picker{
		func() int { return chance.IntN(procs) },
		func() int { return min(chance.IntN(procs), chance.IntN(procs), chance.IntN(procs)) },
		func() int {
			if left == 0 {
				who, left = chance.IntN(procs), chance.IntN(60)+1
			}
			left--
			return who
		},
		func() int { turn++; return turn % procs },
		func() int { turn++; return turn / 2 % procs },
	}
}

// P17.1 to P17.5: long scripts by chance, for objects of each kind: whoever is not busy begins something, or not; now and then one stops for ever.
func TestByChance(t *testing.T) {
	for kind := range api.Kinds {
		for _, procs := range counts() {
			chance := rand.New(rand.NewPCG(uint64(procs), uint64(kind))) // the same numbers in every run
			for _, next := range pickers(chance, procs) {
				w := newWitness(t, chanceState(chance, kind), procs)
				stopped := make([]bool, procs)
				for i := range 750 {
					p := next()
					if i%150 == 149 && procs > 1 {
						stopped[p] = true // at whatever step it is
					}
					if !stopped[p] {
						w.chanceCall(chance, p)
					}
				}
				w.whole()
				w.others(stopped)
				w.inTurn(inTurn(procs, chance.IntN(procs), 2*chance.IntN(2)-1)) // who had stopped goes on after all
			}
		}
	}
}

// chanceCall is a call by which a process goes on, and now and then one that may not be.
func (w *witness) chanceCall(chance *rand.Rand, p int) {
	switch {
	case chance.IntN(40) == 0:
		w.invoke(p, wrongOps()[chance.IntN(len(wrongOps()))])
	case chance.IntN(40) == 0:
		w.step(edges(w.procs)[chance.IntN(len(edges(w.procs)))])
	case chance.IntN(40) == 0, !w.busy(p) && chance.IntN(3) > 0:
		w.invoke(p, chanceOp(chance))
	default:
		w.step(p)
	}
}

// others lets those go on for a while who have not stopped: whether they are done or wait, all is as it should.
func (w *witness) others(stopped []bool) {
	for range 40 {
		for p := range w.procs {
			if !stopped[p] {
				w.step(p)
			}
		}
	}
	w.whole()
}

// hurry lets a process go on, that never has nothing to do.
func hurry(w *witness, p int) {
	w.e.Invoke(p, push(p))
	w.e.Step(p)
}

// P17.5: all step in turn from the beginning on, or from any moment on, and each process that is done begins anew, for a while: all are done within their rounds.
func TestInTurnWithMoreToDo(t *testing.T) {
	for _, procs := range counts() {
		chance := rand.New(rand.NewPCG(8, uint64(procs))) // the same numbers in every run
		for round := range 12 {
			w := newWitness(t, chanceState(chance, round%api.Kinds), procs)
			for range round * chance.IntN(4*procs) {
				w.chanceCall(chance, chance.IntN(procs))
			}
			order := inTurn(procs, chance.IntN(procs), 2*chance.IntN(2)-1)
			for range 30 {
				for _, p := range order {
					if !w.busy(p) {
						w.invoke(p, chanceOp(chance))
					}
					w.step(p)
				}
			}
			w.inTurn(order)
		}
	}
}

// P17.5: rounds in which some of those who step have nothing to do, and in which one operation alone was begun, or none.
func TestFewToDo(t *testing.T) {
	for _, procs := range counts() {
		none := newWitness(t, objs.Start(api.Counter), procs)
		none.all()
		want(t, "Log, if nothing was begun", len(none.log), 0)
		for p := range procs {
			w := newWitness(t, objs.Start(api.Counter), procs)
			w.invoke(p, add(1))
			w.all()
			w.invoke(procs-1-p, add(2))
			w.inTurn(inTurn(procs, p, -1))
			want(t, "the counter", fmt.Sprint(w.e.State().L), "[3]")
		}
	}
}

// P17.5: who waits, waits for its own group: where others stopped for ever anywhere, one whose group has nobody within an operation is done alone, whatever they hold, and however long the log is.
func TestOtherGroupsGoOn(t *testing.T) {
	for _, procs := range []int{5, 8, 9, 17, 64} {
		chance := rand.New(rand.NewPCG(7, uint64(procs))) // the same numbers in every run
		for range 20 {
			w := newWitness(t, objs.Start(api.Queue), procs)
			alone := procs - 1
			for range chance.IntN(40 * procs) {
				hurry(w, chance.IntN(alone/api.Group*api.Group))
			}
			for range 3 {
				ahead := len(w.e.Log())
				w.e.Invoke(alone, push(9))
				for w.e.Busy(alone) {
					if w.e.Step(alone); w.e.Steps(alone) > 20+2*ahead {
						t.Fatalf("%d processes: process %d alone is not done", procs, alone)
					}
				}
				log := w.e.Log()
				want(t, "whose is the last one of Log", log[len(log)-1].Proc, alone)
				want(t, "how many came to Log", len(log), ahead+1)
			}
		}
	}
}

// P17.5: one who was away, or stood still just behind its Invoke or some steps of it, while one of its group, or of another one, did much, and a third one little: all are done within their rounds.
func TestLongAway(t *testing.T) {
	for _, procs := range []int{3, 5, 17} {
		for stood := -1; stood < 14; stood++ {
			for _, who := range [][3]int{{0, 1, 2}, {0, procs - 1, 1}, {procs - 1, 0, 1}, {1, 0, procs - 1}} {
				away, little, much := who[0], who[1], who[2]
				w := newWitness(t, objs.Start(api.Counter), procs)
				if stood >= 0 {
					w.invoke(away, add(1))
				}
				for range stood {
					w.step(away)
				}
				w.goesOn(little, 1)
				w.goesOn(much, 40)
				w.invoke(away, add(1))
				w.inTurn(inTurn(procs, much, 1))
			}
		}
	}
}

// goesOn lets a process do so many operations, one behind the other, as far as it need not wait.
func (w *witness) goesOn(p, count int) {
	for range count {
		w.invoke(p, add(1))
		for range 20 {
			w.step(p)
		}
	}
}

// P17.1 (R3): what is handed in stays as it was, and later changes to it change nothing.
func TestWhatIsHandedIn(t *testing.T) {
	numbers := []int{3, 4, 5, 6}
	start := api.State{Kind: api.Queue, L: numbers[:2]}
	e, _ := New(start, 2)
	for p, o := range []api.Op{push(7), {Code: api.Pop}} {
		e.Invoke(p, o)
		for e.Busy(p) {
			e.Step(p)
		}
	}
	want(t, "what was handed in, and what stands behind it", fmt.Sprint(numbers), "[3 4 5 6]")
	numbers[0], numbers[1] = 50, 60
	want(t, "State behind changes of it", fmt.Sprint(e.State().L), "[4 7]")

	e, _ = New(start, 1)
	numbers[0] = 70
	want(t, "State at the beginning, behind changes of it", fmt.Sprint(e.State().L), "[50 60]")
}

// P17.3 (R3): what is answered is the caller's own.
func TestWhatIsAnswered(t *testing.T) {
	w := newWitness(t, api.State{Kind: api.Stack, L: []int{1, 2}}, 2)
	for i := range 5 {
		for range 2 {
			spoil(w.e)
			w.look()
		}
		w.invoke(i%2, push(i))
		for range 6 {
			w.step(i % 2)
			spoil(w.e)
			w.look()
		}
		w.alone(i % 2)
	}
	w.all()
}

// spoil changes all that an engine answers, and what may stand behind it.
func spoil(e *Engine) {
	s, log := e.State(), e.Log()
	for i := range s.L {
		s.L[i] = -99
	}
	for i := range log {
		log[i] = api.Record{Index: -1, Resp: -99}
	}
	_ = append(s.L, -99)
	_ = append(log, api.Record{Index: -99})
}

// P17.1 to P17.3 (R1): any arguments: no call panics, or goes on for ever, and all is as the chapter has it.
func TestAnyArguments(t *testing.T) {
	chance := rand.New(rand.NewPCG(99, 17)) // the same numbers in every run
	numbers := []int{least, -1<<40 - 1, -1 << 40, -1, 0, 1, 2, 3, 10, 11, 63, 64, 65, 255, 256, 1 << 40, 1<<40 + 1, 1 << 62, greatest}
	any := func() int { return numbers[chance.IntN(len(numbers))] }
	for range 4000 {
		start := api.State{Kind: any(), Sealed: chance.IntN(2) == 0, To: any()}
		for range chance.IntN(4) {
			start.L = append(start.L, any())
		}
		procs := any()
		if e, err := New(start, procs); (err == api.OK) != (e != nil) || err == api.OK && (!objs.May(start) || procs < 1 || procs > 64) {
			t.Fatalf("New(%v, %d): %v", start, procs, err)
		}
	}
	for range 40 {
		w := newWitness(t, objs.Start(chance.IntN(api.Kinds)), chance.IntN(64)+1)
		for range 100 {
			w.invoke(any(), api.Op{Code: any(), A: any(), B: any()})
			w.step(any())
		}
		w.all()
	}
}

// P17.1 to P17.3: an engine knows nothing of another one.
func TestTwoEngines(t *testing.T) {
	first, second := newWitness(t, objs.Start(api.Counter), 2), newWitness(t, objs.Start(api.Queue), 3)
	for i := range 200 {
		first.invoke(i%2, add(i))
		second.invoke(i%3, push(i))
		first.step(i / 3 % 2)
		first.look()
		second.step(i / 2 % 3)
		first.look()
		second.look()
	}
	first.all()
	second.all()
}
