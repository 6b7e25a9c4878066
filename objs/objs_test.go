package objs

import (
	"math"
	"slices"
	"testing"

	"ferryman/api"
)

// equal holds states against each other part by part, without Same; a list without elements may be nil.
func equal(a, b api.State) bool {
	if len(a.L) != len(b.L) || a.Kind != b.Kind || a.Sealed != b.Sealed || a.To != b.To {
		return false
	}
	for i := range a.L {
		if a.L[i] != b.L[i] {
			return false
		}
	}
	return true
}

// state is one that is not sealed.
func state(kind int, l ...int) api.State { return api.State{Kind: kind, L: l} }

// copyOf shares nothing with s.
func copyOf(s api.State) api.State {
	s.L = append([]int(nil), s.L...)
	return s
}

// moveOp is the operation that brings n from one account to another.
func moveOp(from, to, n int) api.Op { return api.Op{Code: api.Move, A: 256*from + to, B: n} }

// wantStep asks of Step that state and that response, and that the state handed in stays as it was; it is Step's state.
func wantStep(t *testing.T, s api.State, o api.Op, want api.State, wantResp int) api.State {
	t.Helper()
	kept := copyOf(s)
	got, resp := Step(s, o)
	if resp != wantResp || !equal(got, want) {
		t.Errorf("Step(%v, %v) = %v, %d, want %v, %d", kept, o, got, resp, want, wantResp)
	}
	if !equal(s, kept) {
		t.Errorf("Step(%v, %v) changed what it was handed to %v", kept, o, s)
	}
	return got
}

// P4.1
func TestStart(t *testing.T) {
	for kind, want := range map[int]api.State{
		api.Counter:  state(0, 0),
		api.Register: state(1, 0),
		api.Queue:    state(2),
		api.Stack:    state(3),
		api.Store:    state(4),
		api.Ledger:   state(5),
	} {
		if got := Start(kind); !equal(got, want) || !May(got) {
			t.Errorf("Start(%d) = %v, want %v; May: %v", kind, got, want, May(got))
		}
	}
	for _, kind := range []int{math.MinInt, -1 << 32, -6, -1, 6, 7, 11, 256, 1 << 32, 1<<32 + 1, math.MaxInt} {
		if got := Start(kind); !equal(got, api.State{}) || May(got) {
			t.Errorf("Start(%d) = %v; May: %v", kind, got, May(got))
		}
	}
}

// P4.1: states at the bounds and one beyond them.
func TestMay(t *testing.T) {
	for _, s := range slices.Concat(goodStates(), sealedStates()) {
		if !May(s) {
			t.Errorf("%v may not be", s)
		}
	}
	for _, s := range wrongStates() {
		if May(s) {
			t.Errorf("%v may be", s)
		}
	}
}

// P4.1: each number of a state that may be, set to each edge, is as the table says.
func TestMayByItsWords(t *testing.T) {
	for _, s := range goodStates() {
		for i := range s.L {
			for _, n := range edges() {
				u := copyOf(s)
				u.L[i] = n
				if May(u) != plainMay(u) {
					t.Fatalf("May(%v) = %v", u, May(u))
				}
			}
		}
		for _, kind := range []int{-1, 0, 1, 2, 3, 4, 5, 6} {
			u := copyOf(s)
			if u.Kind = kind; May(u) != plainMay(u) {
				t.Fatalf("May(%v) = %v", u, May(u))
			}
		}
		for _, to := range edges() {
			for _, sealed := range []bool{false, true} {
				u := copyOf(s)
				if u.Sealed, u.To = sealed, to; May(u) != plainMay(u) {
					t.Fatalf("May(%v) = %v", u, May(u))
				}
			}
		}
	}
}

// P4.1
func TestFits(t *testing.T) {
	for code := range 11 {
		for _, a := range []int{-most, -most + 1, -1, 0, 1, 255, 256, most - 1, most} {
			for _, b := range []int{-most, -1, 0, 1, most} {
				if o := (api.Op{Code: code, A: a, B: b}); !Fits(o) {
					t.Errorf("%v does not fit", o)
				}
			}
		}
		for _, far := range []int{math.MinInt, -1 << 62, api.Void, -most - 1, most + 1, 1 << 50, 1 << 62, math.MaxInt} {
			for _, o := range []api.Op{{Code: code, A: far}, {Code: code, B: far}, {Code: code, A: far, B: far}, {Code: code, A: -far, B: 1}, {Code: code, A: most, B: far}} {
				if Fits(o) {
					t.Errorf("%v fits", o)
				}
			}
		}
	}
	for _, code := range codes() {
		if want := code >= 0 && code <= 10; Fits(api.Op{Code: code, A: 1, B: 2}) != want {
			t.Errorf("code %d fits: %v", code, !want)
		}
	}
}

// P4.1: a state is the same as its copy, and another one if one part is another.
func TestSame(t *testing.T) {
	for _, s := range allStates() {
		if !Same(s, s) || !Same(s, copyOf(s)) || !Same(copyOf(s), s) {
			t.Errorf("%v is not the same as itself", s)
		}
		others := []api.State{s, s, s, copyOf(s)}
		others[0].Kind++
		others[1].Sealed = !s.Sealed
		others[2].To--
		others[3].L = append(others[3].L, 0)
		for i := range s.L {
			u := copyOf(s)
			u.L[i] ^= 1
			shorter := copyOf(s)
			shorter.L = slices.Delete(shorter.L, i, i+1)
			others = append(others, u, shorter)
		}
		for _, u := range others {
			if Same(s, u) || Same(u, s) {
				t.Errorf("%v and %v are the same", s, u)
			}
		}
	}
	if !Same(api.State{Kind: 2}, state(2, []int{}...)) || !Same(api.State{Kind: 2, L: []int{}}, api.State{Kind: 2}) {
		t.Error("a list without elements is another one than nil") // R6
	}
	if Same(state(2, 1, 2), state(2, 2, 1)) {
		t.Error("the order of numbers tells nothing")
	}
}

// P4.2: the chapter's examples.
func TestStepExamples(t *testing.T) {
	wantStep(t, state(api.Counter, 5), api.Op{Code: api.Add, A: 3}, state(api.Counter, 8), 5)
	wantStep(t, state(api.Queue, 1, 2), api.Op{Code: api.Pop}, state(api.Queue, 2), 1)
	for _, s := range sealedStates() {
		for _, code := range codes() {
			wantStep(t, s, api.Op{Code: code, A: 1, B: 1}, s, -1<<50)
		}
	}
}

// P4.2: at the bounds, beyond them, and from one far beyond to the other.
func TestStepOfCounterAndRegister(t *testing.T) {
	for _, c := range []struct{ kind, has, code, a, then, resp int }{
		{api.Counter, 5, api.Add, -7, -2, 5},
		{api.Counter, 5, api.Add, 0, 5, 5},
		{api.Counter, 5, api.Get, 9, 5, 5},
		{api.Counter, -5, api.Get, 0, -5, -5},
		{api.Counter, 5, api.Write, 9, 5, 0},
		{api.Counter, most - 1, api.Add, 1, most, most - 1},
		{api.Counter, most - 1, api.Add, 2, most, most - 1},
		{api.Counter, most, api.Add, 1, most, most},
		{api.Counter, -most + 1, api.Add, -1, -most, -most + 1},
		{api.Counter, -most, api.Add, -1, -most, -most},
		{api.Counter, 1, api.Add, math.MaxInt, most, 1},
		{api.Counter, -1, api.Add, math.MinInt, -most, -1},
		{api.Counter, -most, api.Add, math.MaxInt, 0, -most}, // A is cut ahead of the sum
		{api.Counter, -most, api.Add, most + 5, 0, -most},
		{api.Counter, most, api.Add, math.MinInt, 0, most},
		{api.Counter, 7, api.Add, -most - 1, 7 - most, 7},
		{api.Register, 5, api.Write, -7, -7, 5},
		{api.Register, 5, api.Get, 9, 5, 5},
		{api.Register, 5, api.Add, 9, 5, 0},
		{api.Register, 5, api.Write, most, most, 5},
		{api.Register, 5, api.Write, most + 1, most, 5},
		{api.Register, 5, api.Write, math.MaxInt, most, 5},
		{api.Register, 5, api.Write, -most, -most, 5},
		{api.Register, 5, api.Write, -most - 1, -most, 5},
		{api.Register, most, api.Write, math.MinInt, -most, most},
	} {
		wantStep(t, state(c.kind, c.has), api.Op{Code: c.code, A: c.a, B: 77}, state(c.kind, c.then), c.resp)
	}
}

// P4.2: none, one, 63 and 64 numbers, and numbers that are cut.
func TestStepOfQueueAndStack(t *testing.T) {
	for _, kind := range []int{api.Queue, api.Stack} {
		push := func(n int) api.Op { return api.Op{Code: api.Push, A: n, B: 3} }
		pop, get := api.Op{Code: api.Pop, A: 9}, api.Op{Code: api.Get, A: 9}
		wantStep(t, state(kind), push(7), state(kind, 7), 1)
		wantStep(t, state(kind, 7), push(-8), state(kind, 7, -8), 2)
		wantStep(t, state(kind), push(most+1), state(kind, most), 1)
		wantStep(t, state(kind), push(math.MaxInt), state(kind, most), 1)
		wantStep(t, state(kind), push(math.MinInt), state(kind, -most), 1)
		wantStep(t, state(kind, rising(62)...), push(63), state(kind, rising(63)...), 63)
		wantStep(t, state(kind, rising(63)...), push(64), state(kind, rising(64)...), 64)
		wantStep(t, state(kind, rising(64)...), push(65), state(kind, rising(64)...), -1)
		wantStep(t, state(kind, rising(65)...), push(66), state(kind, rising(65)...), 0)
		wantStep(t, state(kind), pop, state(kind), -1)
		wantStep(t, state(kind, 7), pop, state(kind), 7)
		wantStep(t, state(kind), get, state(kind), 0)
		wantStep(t, state(kind, 7, 7), get, state(kind, 7, 7), 2)
		wantStep(t, state(kind, rising(64)...), get, state(kind, rising(64)...), 64)
	}
	pop := api.Op{Code: api.Pop}
	wantStep(t, state(api.Queue, 4, 5, 6), pop, state(api.Queue, 5, 6), 4)
	wantStep(t, state(api.Stack, 4, 5, 6), pop, state(api.Stack, 4, 5), 6)
	wantStep(t, state(api.Queue, rising(64)...), pop, state(api.Queue, rising(64)[1:]...), 1)
	wantStep(t, state(api.Stack, rising(64)...), pop, state(api.Stack, rising(63)...), 64)
}

// P4.2: keys at the bounds, ahead of, between and behind others, and with 63 and 64 pairs.
func TestStepOfStore(t *testing.T) {
	const kind = api.Store
	for _, c := range []struct {
		s          []int
		code, a, b int
		then       []int
		resp       int
	}{
		{nil, api.Put, 0, 5, []int{0, 5}, -1},
		{nil, api.Put, 255, 5, []int{255, 5}, -1},
		{nil, api.Put, -1, 5, nil, -1},
		{nil, api.Put, 256, 5, nil, -1},
		{nil, api.Put, math.MinInt, 5, nil, -1},
		{nil, api.Put, math.MaxInt, 5, nil, -1},
		{[]int{3, 7}, api.Put, 3, 8, []int{3, 8}, 7},
		{[]int{3, 7}, api.Put, 2, 8, []int{2, 8, 3, 7}, -1},
		{[]int{3, 7}, api.Put, 4, 8, []int{3, 7, 4, 8}, -1},
		{[]int{3, 7, 9, 1}, api.Put, 5, -8, []int{3, 7, 5, -8, 9, 1}, -1},
		{[]int{3, 7}, api.Put, 3, most + 1, []int{3, most}, 7},
		{[]int{3, 7}, api.Put, 3, math.MaxInt, []int{3, most}, 7},
		{[]int{3, 7}, api.Put, 3, -most - 1, []int{3, -most}, 7},
		{[]int{3, 7}, api.Put, 1, math.MinInt, []int{1, -most, 3, 7}, -1},
		{[]int{3, 7, 9, 1}, api.Get, 9, 0, []int{3, 7, 9, 1}, 1},
		{[]int{3, 7, 9, 1}, api.Get, 7, 0, []int{3, 7, 9, 1}, -1}, // 7 is a number, no key
		{[]int{3, -4}, api.Get, 3, 0, []int{3, -4}, -4},
		{[]int{3, 7}, api.Get, -1, 0, []int{3, 7}, -1},
		{[]int{3, 7}, api.Get, 256, 0, []int{3, 7}, -1},
		{[]int{3, 7, 9, 1}, api.Delete, 3, 0, []int{9, 1}, 7},
		{[]int{3, 7, 9, 1}, api.Delete, 9, 0, []int{3, 7}, 1},
		{[]int{3, 7, 9, 1}, api.Delete, 5, 0, []int{3, 7, 9, 1}, -1},
		{[]int{3, 7}, api.Delete, 3, 0, nil, 7},
		{nil, api.Delete, 3, 0, nil, -1},
		{[]int{3, 7}, api.Delete, 259, 0, []int{3, 7}, -1},
		{[]int{3, 7}, api.Deposit, 3, 5, []int{3, 7}, 0},
		{pairs(63, 0, 1, 5), api.Put, 63, 5, pairs(64, 0, 1, 5), -1},
		{pairs(64, 0, 1, 5), api.Put, 64, 5, pairs(64, 0, 1, 5), -2},
		{pairs(64, 1, 1, 5), api.Put, 0, 5, pairs(64, 1, 1, 5), -2},
		{pairs(64, 0, 1, 5), api.Put, 256, 5, pairs(64, 0, 1, 5), -1},
		{pairs(64, 0, 1, 5), api.Put, 63, 9, append(pairs(63, 0, 1, 5), 63, 9), 5},
		{pairs(65, 0, 1, 5), api.Get, 0, 0, pairs(65, 0, 1, 5), 0},
	} {
		wantStep(t, state(kind, c.s...), api.Op{Code: c.code, A: c.a, B: c.b}, state(kind, c.then...), c.resp)
	}
}

// P4.2: what is no key is responded to with -1 by a store, whatever the code (but Seal): the chapter names none there.
func TestStoreWithoutAKey(t *testing.T) {
	for _, s := range []api.State{state(api.Store), state(api.Store, 3, 7), state(api.Store, pairs(64, 0, 4, 1)...)} {
		for _, code := range codes() {
			for _, a := range []int{math.MinInt, -1, 0, 255, 256, math.MaxInt} {
				u, want := s, 0
				switch {
				case code == api.Seal:
					u.Sealed = true
				case a < 0 || a > 255:
					want = -1
				case code == api.Put || code == api.Delete || code == api.Get:
					continue
				}
				wantStep(t, s, api.Op{Code: code, A: a, B: 5}, u, want)
			}
		}
	}
}

// P4.2: accounts at the bounds, Deposits of nothing, of too much, and with 63 and 64 accounts.
func TestDeposit(t *testing.T) {
	const kind = api.Ledger
	full := pairs(64, 0, 1, 5)
	for _, c := range []struct {
		s    []int
		a, b int
		then []int
		resp int
	}{
		{nil, 0, 5, []int{0, 5}, 5},
		{nil, 255, 5, []int{255, 5}, 5},
		{nil, 9, 0, []int{9, 0}, 0},
		{nil, -1, 5, nil, -1},
		{nil, 256, 5, nil, -1},
		{nil, math.MinInt, 5, nil, -1},
		{nil, math.MaxInt, 5, nil, -1},
		{nil, 9, -1, nil, -1},
		{nil, 9, math.MinInt, nil, -1},
		{[]int{9, 4}, 9, 0, []int{9, 4}, 4},
		{[]int{9, 4}, 9, -1, []int{9, 4}, -1},
		{[]int{9, 4}, 9, 6, []int{9, 10}, 10},
		{[]int{9, 4}, 8, 6, []int{8, 6, 9, 4}, 6},
		{[]int{9, 4}, 10, 6, []int{9, 4, 10, 6}, 6},
		{[]int{9, 4}, 9, most - 4, []int{9, most}, most},
		{[]int{9, 4}, 9, most - 3, []int{9, most}, most},
		{[]int{9, 4}, 9, math.MaxInt, []int{9, most}, most},
		{[]int{9, most}, 9, 1, []int{9, most}, most},
		{nil, 9, most + 1, []int{9, most}, most},
		{nil, 9, math.MaxInt, []int{9, most}, most},
		{pairs(63, 0, 1, 5), 63, 5, full, 5},
		{full, 64, 5, full, -2},
		{full, 64, -1, full, -1}, // B is asked ahead of the room, and A ahead of both
		{full, 256, 5, full, -1},
		{full, 63, 1, append(pairs(63, 0, 1, 5), 63, 6), 6},
	} {
		wantStep(t, state(kind, c.s...), api.Op{Code: api.Deposit, A: c.a, B: c.b}, state(kind, c.then...), c.resp)
	}
}

// P4.2
func TestLedgerGet(t *testing.T) {
	s := state(api.Ledger, 0, 5, 9, 0, 255, most)
	for a, want := range map[int]int{0: 5, 9: 0, 255: most, 5: -1, 1: -1, -1: -1, 256: -1, 265: -1, 2304: -1, math.MinInt: -1, math.MaxInt: -1} {
		wantStep(t, s, api.Op{Code: api.Get, A: a, B: 9}, s, want)
	}
	for _, code := range []int{api.Nop, api.Add, api.Write, api.Push, api.Pop, api.Put, api.Delete, 11, -1} {
		for _, a := range []int{-1, 0, 9, 255, 256, 65536, math.MinInt, math.MaxInt} {
			wantStep(t, s, api.Op{Code: code, A: a, B: 1}, s, 0)
		}
	}
}

// P4.2: from and to each edge, with what there is, one more, and none.
func TestMove(t *testing.T) {
	const kind = api.Ledger
	full := pairs(64, 0, 1, 5)
	rich := []int{1, most, 2, most - 3, 3, 3}
	for _, c := range []struct {
		s    []int
		o    api.Op
		then []int
		resp int
	}{
		{[]int{1, 50}, moveOp(1, 2, 20), []int{1, 30, 2, 20}, 1},
		{[]int{1, 50}, moveOp(1, 0, 20), []int{0, 20, 1, 30}, 1},
		{[]int{1, 50, 9, 1}, moveOp(1, 9, 50), []int{1, 0, 9, 51}, 1},
		{[]int{1, 50, 9, 1}, moveOp(9, 1, 1), []int{1, 51, 9, 0}, 1},
		{[]int{1, 50, 9, 1}, moveOp(1, 9, 51), []int{1, 50, 9, 1}, 0},
		{[]int{1, 50, 9, 1}, moveOp(1, 9, math.MaxInt), []int{1, 50, 9, 1}, 0},
		{[]int{1, 50, 9, 1}, moveOp(1, 9, -1), []int{1, 50, 9, 1}, 0},
		{[]int{1, 50, 9, 1}, moveOp(1, 9, math.MinInt), []int{1, 50, 9, 1}, 0},
		{[]int{1, 50, 9, 1}, moveOp(1, 9, 0), []int{1, 50, 9, 1}, 1},
		{[]int{1, 50}, moveOp(1, 9, 0), []int{1, 50, 9, 0}, 1}, // who is given nothing comes to be an account
		{[]int{1, 0}, moveOp(1, 9, 0), []int{1, 0, 9, 0}, 1},
		{[]int{1, 50}, moveOp(2, 1, 0), []int{1, 50}, 0},
		{[]int{1, 50}, moveOp(2, 2, 0), []int{1, 50}, 0},
		{[]int{1, 50}, moveOp(1, 1, 50), []int{1, 50}, 1},
		{[]int{1, 50}, moveOp(1, 1, 51), []int{1, 50}, 0},
		{[]int{1, 50}, moveOp(1, 1, 0), []int{1, 50}, 1},
		{[]int{1, most}, moveOp(1, 1, most), []int{1, most}, 1},
		{[]int{0, 7}, api.Op{Code: api.Move, A: 0, B: 7}, []int{0, 7}, 1},
		{[]int{255, 7}, api.Op{Code: api.Move, A: 65535, B: 7}, []int{255, 7}, 1},
		{[]int{0, 7}, api.Op{Code: api.Move, A: 255, B: 7}, []int{0, 0, 255, 7}, 1},
		{[]int{255, 7}, api.Op{Code: api.Move, A: 65280, B: 7}, []int{0, 7, 255, 0}, 1},
		{[]int{0, 7, 255, 7}, api.Op{Code: api.Move, A: -1, B: 0}, []int{0, 7, 255, 7}, 0},
		{[]int{0, 7, 255, 7}, api.Op{Code: api.Move, A: 65536, B: 0}, []int{0, 7, 255, 7}, 0},
		{[]int{0, 7, 255, 7}, api.Op{Code: api.Move, A: -256, B: 0}, []int{0, 7, 255, 7}, 0},
		{[]int{0, 7, 255, 7}, api.Op{Code: api.Move, A: math.MinInt, B: 0}, []int{0, 7, 255, 7}, 0},
		{[]int{0, 7, 255, 7}, api.Op{Code: api.Move, A: math.MaxInt, B: 0}, []int{0, 7, 255, 7}, 0},
		{rich, moveOp(3, 2, 3), []int{1, most, 2, most, 3, 0}, 1},
		{rich, moveOp(1, 2, 4), rich, 0},
		{rich, moveOp(3, 1, 1), rich, 0},
		{rich, moveOp(3, 1, 0), rich, 1},
		{rich, moveOp(1, 4, most), []int{1, 0, 2, most - 3, 3, 3, 4, most}, 1},
		{rich, moveOp(1, 4, most+1), rich, 0},
		{pairs(63, 0, 1, 5), moveOp(7, 63, 0), append(pairs(63, 0, 1, 5), 63, 0), 1},
		{full, moveOp(7, 64, 1), full, 0},
		{full, moveOp(7, 64, 0), full, 0},
		{full, moveOp(64, 7, 0), full, 0},
		{full, moveOp(64, 64, 0), full, 0},
		{full, moveOp(7, 7, 5), full, 1},
		{append(pairs(63, 0, 1, 5), 63, 0), moveOp(62, 63, 5), append(pairs(62, 0, 1, 5), 62, 0, 63, 5), 1},
	} {
		wantStep(t, state(kind, c.s...), c.o, state(kind, c.then...), c.resp)
	}
}

// P4.2: Seal of each kind, with each A; what else is told of the state stays.
func TestSeal(t *testing.T) {
	for _, s := range goodStates() {
		for _, a := range edges() {
			want := copyOf(s)
			want.Sealed = true
			if a == 1 || a == 2 {
				want.To = a
			}
			wantStep(t, s, api.Op{Code: api.Seal, A: a, B: 1}, want, 0)
		}
	}
}

// P4.2: what may not be is left as it is, also by a Seal, and also if it is Sealed.
func TestStepOfWhatMayNotBe(t *testing.T) {
	for _, s := range wrongStates() {
		for _, code := range codes() {
			wantStep(t, s, api.Op{Code: code, A: 1, B: 1}, s, 0)
			wantStep(t, s, api.Op{Code: code, A: 257, B: 0}, s, 0)
		}
	}
}

// told are the codes that the chapter tells of a kind, beside Seal.
func told(kind int) []int {
	return [][]int{
		{api.Add, api.Get}, {api.Write, api.Get}, {api.Push, api.Pop, api.Get}, {api.Push, api.Pop, api.Get},
		{api.Get, api.Delete, api.Put}, {api.Get, api.Deposit, api.Move},
	}[kind]
}

// P4.2: a code that is not told of a kind changes nothing, and responds 0.
func TestCodesThatAreNotTold(t *testing.T) {
	for _, s := range goodStates() {
		for _, code := range codes() {
			if code == api.Seal || slices.Contains(told(s.Kind), code) {
				continue
			}
			for _, a := range []int{0, 1, 2, 5, 255} {
				for _, b := range []int{math.MinInt, -1, 0, 1, math.MaxInt} {
					wantStep(t, s, api.Op{Code: code, A: a, B: b}, s, 0)
				}
			}
		}
	}
}

// sum is what all accounts have.
func sum(l []int) int {
	n := 0
	for i := 1; i < len(l); i += 2 {
		n += l[i]
	}
	return n
}

// checkStep holds Step against the chapter's words, and asks P4.4 of it.
func checkStep(t *testing.T, s api.State, o api.Op) api.State {
	t.Helper()
	want, resp := plainStep(s, o)
	got := wantStep(t, s, o, want, resp)
	if plainMay(s) != May(got) {
		t.Fatalf("%v behind %v is %v: may it be? %v", s, o, got, May(got))
	}
	if s.Sealed && !equal(s, got) {
		t.Fatalf("%v is sealed, but %v behind %v", s, got, o)
	}
	if s.Kind == api.Ledger && o.Code == api.Move && sum(s.L) != sum(got.L) {
		t.Fatalf("%v behind %v is %v: another sum", s, o, got)
	}
	if t.Failed() {
		t.FailNow()
	}
	return got
}

// P4.2, P4.4: each state behind each code, with each edge as A and B.
func TestStepByItsWords(t *testing.T) {
	for _, s := range goodStates() {
		for code := -1; code <= 11; code++ {
			for _, a := range edges() {
				for _, b := range []int{math.MinInt, -most - 1, -most, -1, 0, 1, 5, 6, most - 5, most, most + 1, math.MaxInt} {
					checkStep(t, s, api.Op{Code: code, A: a, B: b})
				}
			}
		}
	}
}

// P4.2, P4.4: Moves between all accounts that are edges, of what there is and one more and fewer.
func TestMovesByTheirWords(t *testing.T) {
	accounts := []int{0, 1, 2, 3, 4, 5, 62, 63, 64, 65, 66, 192, 252, 253, 254, 255}
	for _, s := range goodStates() {
		if s.Kind != api.Ledger {
			continue
		}
		for _, from := range accounts {
			for _, to := range accounts {
				for _, n := range []int{-1, 0, 1, 4, 5, 6, 9, 10, 20, 50, 51, most - 6, most - 5, most - 4, most - 1, most, most + 1} {
					checkStep(t, s, moveOp(from, to, n))
				}
			}
		}
	}
}

// anyOp is one of those that change a kind, mostly with arguments that may be.
func anyOp(c *chance, kind int) api.Op {
	codes := told(kind)
	o := api.Op{Code: codes[c.below(len(codes))], A: c.below(100), B: c.below(50) - 5}
	switch c.below(8) {
	case 0:
		o.Code = c.below(10)
	case 1:
		o.A = edges()[c.below(len(edges()))]
	case 2:
		o.B = edges()[c.below(len(edges()))]
	}
	if o.Code == api.Move && c.below(8) > 0 {
		o.A = 256*c.below(100) + c.below(100)
	}
	if o.Code == api.Pop && c.below(3) > 0 {
		o.Code = api.Push
	}
	return o
}

// P4.2, P4.3, P4.4: long runs from each Start; the same ones by Fold.
func TestLongRuns(t *testing.T) {
	for kind := range 6 {
		for seed := range 20 {
			c := chance(100*kind + seed)
			s := Start(kind)
			var l []api.Op
			var want []int
			for range 1000 {
				o := anyOp(&c, kind)
				_, resp := plainStep(s, o)
				s = checkStep(t, s, o)
				l, want = append(l, o), append(want, resp)
			}
			if got, resps := Fold(Start(kind), l); !equal(got, s) || !slices.Equal(resps, want) {
				t.Fatalf("kind %d, seed %d: Fold = %v, %v, want %v, %v", kind, seed, got, resps, s, want)
			}
		}
	}
}

// wantFold asks of Fold that state and these responses, and that what is handed in stays as it was.
func wantFold(t *testing.T, s api.State, l []api.Op, want api.State, wantResps []int) {
	t.Helper()
	kept, keptOps := copyOf(s), slices.Clone(l)
	got, resps := Fold(s, l)
	if !equal(got, want) || !slices.Equal(resps, wantResps) {
		t.Errorf("Fold(%v, %v) = %v, %v, want %v, %v", kept, keptOps, got, resps, want, wantResps)
	}
	if !equal(s, kept) || !slices.Equal(l, keptOps) {
		t.Errorf("Fold(%v, %v) changed what it was handed", kept, keptOps)
	}
}

// P4.3: of nothing, of one, of several, past a Seal, and of what may not be.
func TestFold(t *testing.T) {
	add := func(n int) api.Op { return api.Op{Code: api.Add, A: n} }
	end := api.Op{Code: api.Seal, A: 2}
	for _, s := range allStates() {
		wantFold(t, s, nil, s, nil)
		wantFold(t, s, []api.Op{}, s, nil)
	}
	wantFold(t, state(0, 5), []api.Op{add(3)}, state(0, 8), []int{5})
	wantFold(t, state(0, 5), []api.Op{add(3), add(-9), {Code: api.Get}, {}}, state(0, -1), []int{5, 8, -1, 0})
	wantFold(t, state(0, 5), []api.Op{add(3), end}, api.State{L: []int{8}, Sealed: true, To: 2}, []int{5, 0})
	wantFold(t, state(0, 5), []api.Op{add(3), end, add(1), {Code: api.Get}, {Code: api.Seal, A: 1}},
		api.State{L: []int{8}, Sealed: true, To: 2}, []int{5, 0, api.Void, api.Void, api.Void})
	wantFold(t, state(2), []api.Op{{Code: api.Pop}, {Code: api.Push, A: 4}, {Code: api.Push, A: 5}, {Code: api.Pop}}, state(2, 5), []int{-1, 1, 2, 4})
	wantFold(t, state(5), []api.Op{{Code: api.Deposit, A: 1, B: 50}, moveOp(1, 2, 20), moveOp(1, 2, 31)}, state(5, 1, 30, 2, 20), []int{50, 1, 0})
	for _, s := range sealedStates() {
		wantFold(t, s, []api.Op{add(1), end}, s, []int{-1 << 50, -1 << 50})
	}
	for _, s := range wrongStates() {
		wantFold(t, s, []api.Op{add(1), end, {Code: api.Get, A: 1}}, s, []int{0, 0, 0})
	}
}

// P4.3: Fold is the Steps, one behind the other, from each state and cut at each place.
func TestFoldIsItsSteps(t *testing.T) {
	for i, s := range allStates() {
		c := chance(i)
		var l []api.Op
		for range 12 {
			l = append(l, anyOp(&c, max(0, min(s.Kind, 5))))
		}
		l[8] = api.Op{Code: api.Seal, A: i % 4}
		now := copyOf(s)
		var resps []int
		for n := range len(l) + 1 {
			wantFold(t, s, l[:n], now, resps)
			if n < len(l) {
				u, resp := Step(now, l[n])
				now, resps = u, append(resps, resp)
			}
		}
		middle, first := Fold(s, l[:5])
		last, second := Fold(middle, l[5:])
		if !equal(last, now) || !slices.Equal(slices.Concat(first, second), resps) {
			t.Fatalf("Fold of %v in two pieces: %v, %v, %v", s, last, first, second)
		}
	}
}

// P4.4: what is sealed stays as it is, however many operations follow, and whatever they are.
func TestWhatIsSealedStays(t *testing.T) {
	for _, s := range goodStates() {
		sealed, _ := Step(s, api.Op{Code: api.Seal, A: 1})
		var l []api.Op
		for _, code := range codes() {
			for _, a := range edges() {
				l = append(l, api.Op{Code: code, A: a, B: 1})
			}
		}
		got, resps := Fold(sealed, l)
		if !equal(got, sealed) || !Same(got, sealed) || !slices.Equal(got.L, s.L) {
			t.Fatalf("%v was sealed, and is %v then", s, got)
		}
		for i, resp := range resps {
			if resp != api.Void {
				t.Fatalf("%v responds %d to %v", sealed, resp, l[i])
			}
		}
	}
}

// fill writes over all that can be reached from l, behind its end too.
func fill(l []int) {
	l = l[:cap(l)]
	for i := range l {
		l[i] = 777
	}
}

// roomy is s with room behind its numbers, in which something stands, and all of that memory.
func roomy(s api.State) (api.State, []int) {
	room := append(slices.Clone(s.L), slices.Repeat([]int{888}, 20)...)
	s.L = room[:len(s.L)]
	return s, room
}

// ownOps change a state of each kind, or leave it, each in its own way.
func ownOps() []api.Op {
	return []api.Op{
		{}, {Code: api.Add, A: 1}, {Code: api.Write, A: 3}, {Code: api.Push, A: 3}, {Code: api.Pop}, {Code: api.Put, A: 6, B: 3}, {Code: api.Put, A: 1, B: 3},
		{Code: api.Delete, A: 1}, {Code: api.Get, A: 1}, {Code: api.Deposit, A: 1, B: 3}, {Code: api.Deposit, A: 6, B: 3}, moveOp(1, 2, 1), moveOp(1, 6, 1), {Code: api.Seal, A: 1}, {Code: -1},
	}
}

// R3: Step's answer and what was handed to it are each their owner's own, with room behind the numbers too.
func TestWhatStepAnswersIsTheCallersOwn(t *testing.T) {
	for _, s := range allStates() {
		for _, o := range ownOps() {
			in, room := roomy(s)
			kept := slices.Clone(room)
			first, _ := Step(in, o)
			second, _ := Step(in, o)
			want := copyOf(first)
			fill(second.L)
			if !slices.Equal(room, kept) || !equal(first, want) {
				t.Fatalf("Step(%v, %v): a changed answer changed what was handed in, or another answer", s, o)
			}
			fill(room)
			if !equal(first, want) {
				t.Fatalf("Step(%v, %v): what was handed in changed the answer", s, o)
			}
		}
	}
}

// R3: likewise Fold's, and its responses and its operations.
func TestWhatFoldAnswersIsTheCallersOwn(t *testing.T) {
	for _, s := range allStates() {
		for n := range len(ownOps()) {
			in, room := roomy(s)
			ops := ownOps()[:n]
			kept := slices.Clone(room)
			first, firstResps := Fold(in, ops)
			second, secondResps := Fold(in, ops)
			want, wantResps := copyOf(first), slices.Clone(firstResps)
			fill(second.L)
			if !slices.Equal(secondResps, wantResps) {
				t.Fatalf("Fold(%v): the state's numbers and the responses are one memory", s)
			}
			fill(secondResps)
			if !slices.Equal(room, kept) || !equal(first, want) || !slices.Equal(firstResps, wantResps) || !slices.Equal(ops, ownOps()[:n]) {
				t.Fatalf("Fold(%v): a changed answer changed what was handed in, or another answer", s)
			}
			fill(room)
			clear(ops)
			if !equal(first, want) || !slices.Equal(firstResps, wantResps) {
				t.Fatalf("Fold(%v): what was handed in changed the answer", s)
			}
		}
	}
}

// R3: what Start answers is the caller's own. R5: asked again, it is the same.
func TestWhatStartAnswersIsTheCallersOwn(t *testing.T) {
	for _, kind := range []int{-1, 0, 1, 2, 3, 4, 5, 6} {
		first, second := Start(kind), Start(kind)
		want := copyOf(first)
		fill(second.L)
		_ = append(second.L, 777)
		if !equal(first, want) || !equal(Start(kind), want) {
			t.Errorf("a changed Start(%d) changed another one", kind)
		}
	}
}

// R3: what is only looked at stays as it was.
func TestWhatIsAskedStaysAsItWas(t *testing.T) {
	for _, s := range allStates() {
		in, room := roomy(s)
		kept := slices.Clone(room)
		May(in)
		Same(in, in)
		Same(in, s)
		Same(s, in)
		if !slices.Equal(room, kept) {
			t.Fatalf("%v was changed", s)
		}
	}
}

// R1: great states that may not be, and many operations, end.
func TestGreatInputs(t *testing.T) {
	great := make([]int, 1<<18)
	ops := slices.Repeat([]api.Op{{Code: api.Push, A: 1}, {Code: api.Pop}}, 1<<17)
	for kind := range 6 {
		got, resps := Fold(api.State{Kind: kind, L: great}, ops)
		if len(got.L) != len(great) || len(resps) != len(ops) || resps[len(ops)-1] != 0 {
			t.Fatal(kind, len(got.L), len(resps))
		}
		if got, _ := Fold(Start(kind), ops); !equal(got, Start(kind)) {
			t.Fatal(kind, got)
		}
	}
}
