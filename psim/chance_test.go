package psim

import (
	"fmt"
	"math/rand/v2"
	"slices"
	"testing"

	"ferryman/api"
	"ferryman/objs"
)

// picker tells who goes on next.
type picker func() int

// pickers are ways in which processes may go on: by chance, some of them much more often than others, for a while each, in turn, and all but one.
func pickers(chance *rand.Rand, procs int) []picker {
	turn, who, left := 0, 0, 0
	return []picker{
		func() int { return chance.IntN(procs) },
		func() int { return min(chance.IntN(procs), chance.IntN(procs), chance.IntN(procs)) },
		func() int {
			if left == 0 {
				who, left = chance.IntN(procs), chance.IntN(60)+1
			}
			left--
			return who
		},
		func() int { turn++; return turn % procs },
		func() int { turn++; return turn / 2 % procs },
	}
}

// P16.1 to P16.5: long scripts by chance, for objects of each kind: whoever is not busy begins something, or not; now and then one stops for ever.
func TestByChance(t *testing.T) {
	for kind := range api.Kinds {
		for _, procs := range counts() {
			chance := rand.New(rand.NewPCG(uint64(procs), uint64(kind))) // the same numbers in every run
			for _, next := range pickers(chance, procs) {
				w := newWitness(t, chanceState(chance, kind), procs)
				stopped := make([]bool, procs)
				for i := range 900 {
					p := next()
					if i%150 == 149 && procs > 1 {
						stopped[p] = true // at whatever step it is
					}
					if !stopped[p] {
						w.chanceCall(chance, p)
					}
				}
				w.whole()
				w.others(stopped)
				w.all() // who had stopped goes on after all
			}
		}
	}
}

// chanceCall is a call by which a process goes on, and now and then one that may not be.
func (w *witness) chanceCall(chance *rand.Rand, p int) {
	switch {
	case chance.IntN(40) == 0:
		w.invoke(p, wrongOps()[chance.IntN(len(wrongOps()))])
	case chance.IntN(40) == 0:
		w.step(edges(w.procs)[chance.IntN(len(edges(w.procs)))])
	case chance.IntN(40) == 0, !w.busy(p) && chance.IntN(3) > 0:
		w.invoke(p, chanceOp(chance))
	default:
		w.step(p)
	}
}

// others lets those go on who have not stopped, in turn, until none of them is busy.
func (w *witness) others(stopped []bool) {
	goesOn := func(p int) bool { return w.busy(p) && !stopped[p] }
	for some := true; some; {
		some = false
		for p := range w.procs {
			if goesOn(p) {
				w.step(p)
				some = some || goesOn(p)
			}
		}
	}
	w.whole()
}

// P16.5: one who goes on by a step now and then, while others do one operation behind the other, or all of them stand somewhere within one: within its bound it is done.
func TestNobodyWaits(t *testing.T) {
	for _, procs := range counts() {
		for _, between := range []int{0, 1, 2, 3, 5, 7, 11, 40, 200} {
			for victim := range min(procs, 3) {
				w := newWitness(t, objs.Start(api.Counter), procs)
				w.e.Invoke(victim, add(1))
				steps := 0
				for turn := 0; w.e.Busy(victim); {
					w.e.Step(victim)
					steps++
					for range between {
						turn++
						hurry(w.e, turn%procs, victim)
					}
					if steps > w.bound() {
						t.Fatalf("%d processes, %d steps of others to one of process %d: it is not done within %d", procs, between, victim, w.bound())
					}
				}
			}
		}
	}
}

// hurry lets one of the others go on, who never has nothing to do.
func hurry(e *Engine, p, victim int) {
	if p == victim {
		return
	}
	e.Invoke(p, add(1))
	e.Step(p)
}

// P16.5: one alone is done within its bound, wherever all the others stopped, and however long the log is.
func TestAllOthersStop(t *testing.T) {
	for _, procs := range counts() {
		chance := rand.New(rand.NewPCG(7, uint64(procs))) // the same numbers in every run
		for range 60 {
			w := newWitness(t, objs.Start(api.Queue), procs)
			for range chance.IntN(4 * procs * procs) {
				p := chance.IntN(procs)
				w.e.Invoke(p, push(p))
				w.e.Step(p)
			}
			p := chance.IntN(procs)
			for w.e.Busy(p) {
				w.e.Step(p)
			}
			ahead := len(w.e.Log())
			w.e.Invoke(p, push(9))
			for w.e.Busy(p) {
				if w.e.Step(p); w.e.Steps(p) > w.bound() {
					t.Fatalf("%d processes: process %d is not done within %d", procs, p, w.bound())
				}
			}
			if log := w.e.Log(); !slices.ContainsFunc(log[ahead:], func(r api.Record) bool { return r.Proc == p }) {
				t.Fatalf("%d processes: Log %v lacks what process %d did behind %d others", procs, log, p, ahead)
			}
		}
	}
}

// P16.5: one who was away, or stood still just behind its Invoke or some steps of it, while another one did more than its bound has steps, and a third one little: it is done within its bound.
func TestLongAway(t *testing.T) {
	for _, procs := range counts()[2:] {
		for _, stood := range []int{-1, 0, 1, 2, 3, 5} {
			for _, who := range [][3]int{{0, 1, 2}, {0, procs - 1, 1}, {procs - 1, 0, 1}, {1, 0, procs - 1}} {
				away, little, much := who[0], who[1], who[2]
				w := newWitness(t, objs.Start(api.Counter), procs)
				if stood >= 0 {
					w.e.Invoke(away, add(1))
				}
				for range stood {
					w.e.Step(away)
				}
				oneByOne(w.e, little, 1)
				oneByOne(w.e, much, w.bound()/5)
				w.e.Invoke(away, add(1))
				for w.e.Busy(away) {
					if w.e.Step(away); w.e.Steps(away) > w.bound() {
						t.Fatalf("%d processes: process %d is not done within %d, as it stood still behind %d steps", procs, away, w.bound(), stood)
					}
				}
			}
		}
	}
}

// oneByOne lets a process do so many operations, one behind the other.
func oneByOne(e *Engine, p, count int) {
	for range count {
		e.Invoke(p, add(1))
		for e.Busy(p) {
			e.Step(p)
		}
	}
}

// P16.1 (R3): what is handed in stays as it was, and later changes to it change nothing.
func TestWhatIsHandedIn(t *testing.T) {
	numbers := []int{3, 4, 5, 6}
	start := api.State{Kind: api.Queue, L: numbers[:2]}
	e, _ := New(start, 2)
	for p, o := range []api.Op{push(7), {Code: api.Pop}} {
		e.Invoke(p, o)
		for e.Busy(p) {
			e.Step(p)
		}
	}
	want(t, "what was handed in, and what stands behind it", fmt.Sprint(numbers), "[3 4 5 6]")
	numbers[0], numbers[1] = 50, 60
	want(t, "State behind changes of it", fmt.Sprint(e.State().L), "[4 7]")

	e, _ = New(start, 1)
	numbers[0] = 70
	want(t, "State at the beginning, behind changes of it", fmt.Sprint(e.State().L), "[50 60]")
}

// P16.3 (R3): what is answered is the caller's own.
func TestWhatIsAnswered(t *testing.T) {
	w := newWitness(t, api.State{Kind: api.Stack, L: []int{1, 2}}, 2)
	for i := range 5 {
		for range 2 {
			spoil(w.e)
			w.look()
		}
		w.invoke(i%2, push(i))
		w.step(0)
		spoil(w.e)
		w.look()
		w.alone(i % 2)
	}
	w.all()
}

// spoil changes all that an engine answers, and what may stand behind it.
func spoil(e *Engine) {
	s, log := e.State(), e.Log()
	for i := range s.L {
		s.L[i] = -99
	}
	for i := range log {
		log[i] = api.Record{Index: -1, Resp: -99}
	}
	_ = append(s.L, -99)
	_ = append(log, api.Record{Index: -99})
}

// P16.1 to P16.3 (R1): any arguments: no call panics, or goes on for ever, and all is as the chapter has it.
func TestAnyArguments(t *testing.T) {
	chance := rand.New(rand.NewPCG(99, 16)) // the same numbers in every run
	numbers := []int{least, -1<<40 - 1, -1 << 40, -1, 0, 1, 2, 3, 10, 11, 63, 64, 65, 255, 256, 1 << 40, 1<<40 + 1, 1 << 62, greatest}
	any := func() int { return numbers[chance.IntN(len(numbers))] }
	for range 4000 {
		start := api.State{Kind: any(), Sealed: chance.IntN(2) == 0, To: any()}
		for range chance.IntN(4) {
			start.L = append(start.L, any())
		}
		procs := any()
		if e, err := New(start, procs); (err == api.OK) != (e != nil) || err == api.OK && (!objs.May(start) || procs < 1 || procs > 64) {
			t.Fatalf("New(%v, %d): %v", start, procs, err)
		}
	}
	for range 40 {
		w := newWitness(t, objs.Start(chance.IntN(api.Kinds)), chance.IntN(64)+1)
		for range 100 {
			w.invoke(any(), api.Op{Code: any(), A: any(), B: any()})
			w.step(any())
		}
		w.all()
	}
}

// P16.1 to P16.3: an engine knows nothing of another one.
func TestTwoEngines(t *testing.T) {
	first, second := newWitness(t, objs.Start(api.Counter), 2), newWitness(t, objs.Start(api.Queue), 3)
	for i := range 200 {
		first.invoke(i%2, add(i))
		second.invoke(i%3, push(i))
		first.step(i / 3 % 2)
		first.look()
		second.step(i / 2 % 3)
		first.look()
		second.look()
	}
	first.all()
	second.all()
}
