package machine

import (
	"fmt"
	"math/rand/v2"
	"testing"
)

func want[T comparable](t *testing.T, what string, got, wanted T) {
	t.Helper()
	if got != wanted {
		t.Errorf("%s: %v, want %v", what, got, wanted)
	}
}

// machineOf is a machine with so many cells, behind calls.
func machineOf(procs, count int, script ...call) *Machine {
	m := New(procs)
	m.Cells(count)
	for _, c := range script {
		c.of(m)
	}
	return m
}

// wantSteps asks how many steps the processes 0, 1, .. had.
func wantSteps(t *testing.T, what string, m *Machine, steps ...int) {
	t.Helper()
	for p, wanted := range steps {
		want(t, fmt.Sprintf("%s: Steps(%d)", what, p), m.Steps(p), wanted)
	}
}

// wantCells asks what all the cells have.
func wantCells(t *testing.T, what string, m *Machine, numbers ...int) {
	t.Helper()
	want(t, what+": Len()", m.Len(), len(numbers))
	for cell, wanted := range numbers {
		want(t, fmt.Sprintf("%s: what cell %d has", what, cell), m.Read(nobody, cell), wanted)
	}
}

// P14.1, P14.2: the chapter's example.
func TestTheExample(t *testing.T) {
	m := New(2)
	want(t, "Cells(2)", m.Cells(2), 0)
	want(t, "Add(0, 1, 5)", m.Add(0, 1, 5), 0)
	want(t, "Swap(1, 1, 5, 7)", m.Swap(1, 1, 5, 7), true)
	want(t, "Read(0, 1)", m.Read(0, 1), 7)
	want(t, "Steps(0)", m.Steps(0), 2)
	wantSteps(t, "the example", m, 2, 1)
	wantCells(t, "the example", m, 0, 7)
}

// P14.1: no cells, and no accesses, of however many processes.
func TestNew(t *testing.T) {
	for _, procs := range []int{least, -2, -1, 0, 1, 2, 64, 65, 1 << 20, 1 << 40, 1 << 62, greatest} {
		m := New(procs)
		want(t, fmt.Sprintf("New(%d): Len()", procs), m.Len(), 0)
		want(t, fmt.Sprintf("New(%d): Cells(0)", procs), m.Cells(0), 0)
		for _, p := range []int{least, procs - 1, -1, 0, 1, procs, procs + 1, greatest} {
			want(t, fmt.Sprintf("New(%d): Steps(%d)", procs, p), m.Steps(p), 0)
		}
		want(t, "Read without cells", m.Read(0, 0), 0)
		want(t, "Add without cells", m.Add(0, 0, 1), 0)
		want(t, "Swap without cells", m.Swap(0, 0, 0, 1), false)
		m.Write(0, 0, 1)
		want(t, fmt.Sprintf("New(%d): Len() behind accesses", procs), m.Len(), 0)
	}
}

// P14.1, P14.2: which processes there are: their accesses count, those of others don't, and are done all the same.
func TestWhichProcessesThereAre(t *testing.T) {
	for _, procs := range []int{least, -1, 0, 1, 2, 64, 65, 1 << 20, 1 << 62, greatest} {
		for _, p := range []int{least, -2, -1, 0, 1, 2, 63, 64, 65, procs - 1, procs, procs + 1, 1 << 40, greatest - 1, greatest} {
			m := machineOf(procs, 2)
			what := fmt.Sprintf("New(%d), process %d", procs, p)
			m.Write(p, 1, 5)
			want(t, what+": Add", m.Add(p, 1, 2), 5)
			want(t, what+": Swap", m.Swap(p, 1, 7, 9), true)
			want(t, what+": Read", m.Read(p, 1), 9)
			steps := 0
			if 0 <= p && p < procs {
				steps = 4
			}
			want(t, what+": Steps", m.Steps(p), steps)
			wantCells(t, what, m, 0, 9)
		}
	}
}

// P14.1: how many cells there come by each n, and what is answered.
func TestCells(t *testing.T) {
	m := New(1)
	for _, c := range []struct{ n, more int }{
		{0, 0}, {1, 1}, {0, 0}, {-1, 0}, {2, 2}, {least, 0}, {1<<20 + 1, 0}, {greatest, 0}, {3, 3}, {1 << 40, 0}, {1 << 62, 0}, {-1 << 20, 0}, {1, 1}, {1 << 20, 1 << 20}, {1<<20 - 1, 1<<20 - 1}, {1<<20 + 1, 0}, {1 << 21, 0}, {1, 1},
	} {
		ahead := m.Len()
		want(t, fmt.Sprintf("Cells(%d)", c.n), m.Cells(c.n), ahead)
		want(t, fmt.Sprintf("Len() behind Cells(%d)", c.n), m.Len(), ahead+c.more)
	}
	want(t, "Len() in the end", m.Len(), 7+1<<21)
}

// P14.1: each new cell is there and has 0, whatever stood in cells ahead of it, and these stay.
func TestNewCellsHaveNought(t *testing.T) {
	m := New(1)
	m.Write(0, 0, 8) // there is no such cell yet, so that the number is not there later
	m.Add(0, 1, 8)
	m.Cells(2)
	wantCells(t, "behind Cells(2)", m, 0, 0)
	m.Write(0, 0, 5)
	m.Write(0, 1, -6)
	m.Write(0, 2, 7)
	want(t, "Swap of a cell that there is not", m.Swap(0, 3, 0, 7), false)
	m.Cells(3)
	wantCells(t, "behind Cells(3)", m, 5, -6, 0, 0, 0)
	m.Cells(-1)
	m.Cells(1<<20 + 1)
	wantCells(t, "behind none more", m, 5, -6, 0, 0, 0)
}

// P14.1, P14.2: Cells, Len and Steps are no accesses.
func TestWhatIsNoAccess(t *testing.T) {
	m := New(2)
	for range 3 {
		m.Cells(1)
		m.Cells(0)
		m.Len()
		m.Steps(0)
		m.Steps(1)
		m.Steps(9)
	}
	wantSteps(t, "without an access", m, 0, 0)
	wantCells(t, "without an access", m, 0, 0, 0)
}

// P14.1: 2^20 cells, all of which may be had.
func TestAllCells(t *testing.T) {
	m := machineOf(1, 1<<20)
	for cell := range 1 << 20 {
		if n := m.Add(0, cell, cell+1); n != 0 {
			t.Fatal(cell, n)
		}
	}
	for cell := range 1 << 20 {
		if n := m.Read(0, cell); n != cell+1 {
			t.Fatal(cell, n)
		}
	}
	want(t, "Steps(0)", m.Steps(0), 1<<21)
	want(t, "Read(0, 2^20)", m.Read(0, 1<<20), 0)
}

// P1, P14.1: any count of cells may be made, and the last one be had.
func TestMoreCellsThanAMachineHasRoomFor(t *testing.T) {
	m := New(1)
	for i := range 1 << 20 {
		if first := m.Cells(1 << 20); first != i<<20 {
			t.Fatal(i, first)
		}
	}
	want(t, "Len()", m.Len(), 1<<40)
	m.Write(0, 1<<40-1, 3)
	m.Write(0, 1<<40, 4)
	want(t, "the last cell", m.Read(0, 1<<40-1), 3)
	want(t, "the one ahead", m.Read(0, 1<<40-2), 0)
	want(t, "the one behind", m.Read(0, 1<<40), 0)
}

// P14.2: several processes by turns: what each access answers, what each cell has, and how many steps each process had behind it.
func TestByTurns(t *testing.T) {
	m := machineOf(3, 3)
	for i, c := range []struct {
		call
		answer string
		cells  [3]int
		steps  [3]int
	}{
		{reads(0, 0), "0", [3]int{0, 0, 0}, [3]int{1, 0, 0}},
		{writes(1, 0, 4), "", [3]int{4, 0, 0}, [3]int{1, 1, 0}},
		{reads(0, 0), "4", [3]int{4, 0, 0}, [3]int{2, 1, 0}},
		{adds(2, 0, 3), "4", [3]int{7, 0, 0}, [3]int{2, 1, 1}},
		{adds(2, 2, -5), "0", [3]int{7, 0, -5}, [3]int{2, 1, 2}},
		{swaps(1, 0, 7, 9), "true", [3]int{9, 0, -5}, [3]int{2, 2, 2}},
		{swaps(0, 0, 7, 8), "false", [3]int{9, 0, -5}, [3]int{3, 2, 2}},
		{reads(2, 0), "9", [3]int{9, 0, -5}, [3]int{3, 2, 3}},
		{swaps(2, 1, 0, 6), "true", [3]int{9, 6, -5}, [3]int{3, 2, 4}},
		{writes(0, 2, 0), "", [3]int{9, 6, 0}, [3]int{4, 2, 4}},
		{writes(0, 2, 0), "", [3]int{9, 6, 0}, [3]int{5, 2, 4}},
		{swaps(1, 2, 0, 0), "true", [3]int{9, 6, 0}, [3]int{5, 3, 4}},
		{adds(1, 1, 0), "6", [3]int{9, 6, 0}, [3]int{5, 4, 4}},
		{adds(1, 1, 1), "6", [3]int{9, 7, 0}, [3]int{5, 5, 4}},
		{reads(2, 1), "7", [3]int{9, 7, 0}, [3]int{5, 5, 5}},
		{writes(2, 0, -1), "", [3]int{-1, 7, 0}, [3]int{5, 5, 6}},
		{reads(0, 2), "0", [3]int{-1, 7, 0}, [3]int{6, 5, 6}},
	} {
		what := fmt.Sprintf("access %d, %s", i, c.text)
		want(t, what, c.of(m), c.answer)
		wantCells(t, what, m, c.cells[:]...)
		wantSteps(t, what, m, c.steps[:]...)
	}
}

// P14.2: an access of a cell that there is not is a step, answers nothing, and changes nothing.
func TestCellsThatThereAreNot(t *testing.T) {
	for _, cell := range []int{least, -1 << 20, -2, -1, 3, 4, 1 << 20, 1 << 40, 1 << 62, greatest} {
		m := machineOf(2, 3, writes(1, 0, 5), writes(1, 2, 6))
		what := fmt.Sprintf("cell %d", cell)
		want(t, what+": Read", m.Read(0, cell), 0)
		want(t, what+": Add", m.Add(0, cell, 4), 0)
		want(t, what+": Add anew", m.Add(0, cell, 4), 0)
		want(t, what+": Swap", m.Swap(0, cell, 0, 7), false)
		want(t, what+": Swap to the same", m.Swap(0, cell, 0, 0), false)
		m.Write(0, cell, 8)
		want(t, what+": Swap of what was written", m.Swap(0, cell, 8, 9), false)
		want(t, what+": Read in the end", m.Read(0, cell), 0)
		wantSteps(t, what, m, 8, 2)
		wantCells(t, what, m, 5, 0, 6)
	}
}

// P14.2: the first cell and the last one.
func TestTheLastCell(t *testing.T) {
	for _, count := range []int{1, 2, 64, 1 << 20} {
		m := machineOf(1, count)
		for i, cell := range []int{0, count - 1} {
			what := fmt.Sprintf("%d cells, cell %d", count, cell)
			m.Write(0, cell, 5)
			want(t, what+": Read", m.Read(0, cell), 5)
			want(t, what+": Add", m.Add(0, cell, 2), 5)
			want(t, what+": Swap", m.Swap(0, cell, 7, 0), true)
			wantSteps(t, what, m, 4*(i+1))
		}
	}
}

// P14.2: a process that there is not: its access is done all the same, of a cell that there is and of one that there is not, and nobody's Steps are more.
func TestProcessesThatThereAreNot(t *testing.T) {
	for _, p := range []int{least, -2, -1, 3, 4, 64, 1 << 40, greatest} {
		m := machineOf(3, 2, reads(0, 0), reads(2, 0))
		what := fmt.Sprintf("process %d", p)
		m.Write(p, 0, 4)
		want(t, what+": Read", m.Read(p, 0), 4)
		want(t, what+": Add", m.Add(p, 0, 1), 4)
		want(t, what+": Swap", m.Swap(p, 0, 5, 6), true)
		want(t, what+": Swap of another number", m.Swap(p, 0, 5, 7), false)
		want(t, what+": Read of no cell", m.Read(p, 2), 0)
		want(t, what+": Add of no cell", m.Add(p, 2, 1), 0)
		want(t, what+": Swap of no cell", m.Swap(p, 2, 0, 1), false)
		m.Write(p, 2, 3)
		want(t, what+": Steps", m.Steps(p), 0)
		wantSteps(t, what, m, 1, 0, 1)
		wantCells(t, what, m, 6, 0)
	}
}

// P14.2: Write gives any number, also the one that the cell has.
func TestWrite(t *testing.T) {
	m := machineOf(1, 1)
	for i, n := range []int{0, 5, 5, -5, least, greatest, 0, 1} {
		m.Write(0, 0, n)
		what := fmt.Sprintf("Write %d of %d", i, n)
		wantCells(t, what, m, n)
		wantSteps(t, what, m, i+1)
	}
}

// P14.2: Swap of the same number to itself, and of others, where the cell has old and where it hasn't.
func TestSwap(t *testing.T) {
	numbers := []int{least, -1, 0, 1, 7, greatest}
	for _, has := range numbers {
		for _, old := range numbers {
			for _, new := range numbers {
				m := machineOf(2, 2, writes(1, 0, has))
				what := fmt.Sprintf("%d, Swap from %d to %d", has, old, new)
				want(t, what, m.Swap(0, 0, old, new), has == old)
				behind := has
				if has == old {
					behind = new
				}
				wantCells(t, what, m, behind, 0)
				wantSteps(t, what, m, 1, 1)
			}
		}
	}
}

// P14.2: a sum beyond the greatest number, or below the least one, is modulo 2^64.
func TestAdd(t *testing.T) {
	for _, c := range []struct{ has, n, sum int }{
		{0, 0, 0}, {0, 5, 5}, {5, -7, -2}, {5, 0, 5}, {greatest, 0, greatest}, {greatest - 1, 1, greatest}, {least, greatest, -1},
		{greatest, 1, least}, {1, greatest, least}, {greatest, greatest, -2}, {greatest, 5, least + 4}, {1 << 62, 1 << 62, least},
		{least, -1, greatest}, {-1, least, greatest}, {least, least, 0}, {least, -5, greatest - 4}, {-1 << 62, -1<<62 - 1, greatest},
	} {
		m := machineOf(1, 2, writes(0, 1, c.has))
		what := fmt.Sprintf("Add of %d to %d", c.n, c.has)
		want(t, what, m.Add(0, 1, c.n), c.has)
		wantCells(t, what, m, 0, c.sum)
		wantSteps(t, what, m, 2)
	}
}

// P14.3: of several who Swap a cell from one number to others just the first one is told true, whoever that is.
func TestJustTheFirstSwapIsTold(t *testing.T) {
	for _, from := range []int{least, -1, 0, 3, greatest} {
		for first := range 5 {
			m := machineOf(5, 1, writes(0, 0, from))
			for i := range 12 { // twice and more of each process
				p := (first + i) % 5
				to := 100 + i
				want(t, fmt.Sprintf("from %d, Swap %d, by %d", from, i, p), m.Swap(p, 0, from, to), i == 0)
				wantCells(t, "behind the first one", m, 100)
			}
		}
	}
}

// P14.3: who gives the cell that number anew, by Write, Add or Swap, lets one more be told true.
func TestASwapBehindTheNumberWasGivenAnew(t *testing.T) {
	for _, gives := range []call{writes(2, 0, 3), adds(2, 0, -5), swaps(2, 0, 8, 3)} {
		m := machineOf(3, 1, writes(2, 0, 3))
		for range 3 {
			want(t, "the first Swap", m.Swap(0, 0, 3, 8), true)
			want(t, "the second Swap", m.Swap(1, 0, 3, 9), false)
			want(t, "the third Swap", m.Swap(0, 0, 3, 8), false)
			gives.of(m)
		}
		wantCells(t, "behind "+gives.text, m, 3)
	}
}

// P14.3: in scripts by chance between two Swaps of a cell from a number that were told true somebody gave it that number.
func TestSwapsByChance(t *testing.T) {
	chance := rand.New(rand.NewPCG(14, 3)) // the same numbers in every run
	told := 0
	for range 2000 {
		m := machineOf(4, 2)
		var mayBeTold [2][3]bool
		mayBeTold[0][0], mayBeTold[1][0] = true, true // a new cell has 0
		for range 40 {
			p, cell, old, new := chance.IntN(5), chance.IntN(2), chance.IntN(3), chance.IntN(3)
			if chance.IntN(4) == 0 {
				m.Write(p, cell, new)
				mayBeTold[cell][new] = true
				continue
			}
			if !m.Swap(p, cell, old, new) {
				continue
			}
			if !mayBeTold[cell][old] {
				t.Fatalf("Swap(%d, %d, %d, %d) is told true, but nobody gave the number anew", p, cell, old, new)
			}
			told++
			mayBeTold[cell][old] = false
			mayBeTold[cell][new] = true
		}
	}
	if told < 2000 {
		t.Error(told)
	}
}

// P14.1, P14.2: all short scripts.
func TestAllShortScripts(t *testing.T) {
	calls := []call{
		cells(1), cells(2), cells(0), cells(1<<20 + 1),
		reads(0, 0), reads(1, 2), writes(0, 0, 1), writes(2, 1, 2), writes(-1, 0, 0),
		swaps(0, 0, 0, 1), swaps(1, 0, 1, 2), swaps(1, 1, 0, 0), adds(0, 0, 1), adds(1, 1, greatest), adds(3, 0, 2),
	}
	for _, a := range calls {
		wantAsTold(t, 2, a)
		for _, b := range calls {
			wantAsTold(t, 2, a, b)
			for _, c := range calls {
				wantAsTold(t, 2, a, b, c)
				wantAsTold(t, 2, cells(2), a, b, c)
			}
		}
	}
}

// P14.1, P14.2: long scripts by chance, with few processes and with many.
func TestScriptsByChance(t *testing.T) {
	chance := rand.New(rand.NewPCG(14, 14)) // the same numbers in every run
	for i := range 1000 {
		var script []call
		for range 20 + chance.IntN(60) {
			script = append(script, chanceCall(chance))
		}
		wantAsTold(t, []int{-1, 0, 1, 2, 3, greatest}[i%6], script...)
	}
}

// R1, P1: any numbers, in any order.
func TestAnyArguments(t *testing.T) {
	numbers := []int{least, least + 1, -1, 0, 1, 2, 1<<20 + 1, greatest - 1, greatest}
	for _, procs := range numbers {
		for _, a := range numbers {
			var script []call
			for _, b := range numbers {
				script = append(script, cells(a), reads(a, b), writes(a, b, a), adds(a, b, b), swaps(a, b, a, b), swaps(b, a, b, b), cells(1))
			}
			wantAsTold(t, procs, script...)
		}
	}
}

// P14.1: a machine has nothing of another one.
func TestMachinesAreTheirOwn(t *testing.T) {
	a, b := machineOf(2, 2, writes(0, 1, 5)), machineOf(2, 3, adds(1, 0, 6), adds(1, 2, 7))
	wantCells(t, "the first one", a, 0, 5)
	wantSteps(t, "the first one", a, 1, 0)
	wantCells(t, "the second one", b, 6, 0, 7)
	wantSteps(t, "the second one", b, 0, 2)
}
