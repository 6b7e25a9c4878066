package machine

import (
	"fmt"
	"math/big"
	"math/rand/v2"
	"strings"
	"testing"
)

const (
	least    = -1 << 63
	greatest = 1<<63 - 1
)

// memory is what both the program's machine and the plain one are.
type memory interface {
	Cells(n int) int
	Read(p, cell int) int
	Write(p, cell, n int)
	Swap(p, cell, old, new int) bool
	Add(p, cell, n int) int
	Steps(p int) int
	Len() int
}

// plainMachine is the chapter's words: each cell has all numbers that it ever had, one behind the other, and the processes of all accesses stand in a list.
type plainMachine struct {
	procs    int
	had      [][]int
	accesses []int
}

func newPlain(procs int) *plainMachine { return &plainMachine{procs: procs} }

func (m *plainMachine) Cells(n int) int {
	ahead := len(m.had)
	if n > 1<<20 {
		return ahead
	}
	for len(m.had) < ahead+n {
		m.had = append(m.had, []int{0})
	}
	return ahead
}

// access is one: what the cell has, and whether there is such a cell.
func (m *plainMachine) access(p, cell int) (int, bool) {
	m.accesses = append(m.accesses, p)
	for i, had := range m.had {
		if i == cell {
			return had[len(had)-1], true
		}
	}
	return 0, false
}

func (m *plainMachine) Read(p, cell int) int {
	has, _ := m.access(p, cell)
	return has
}

func (m *plainMachine) Write(p, cell, n int) {
	if _, there := m.access(p, cell); there {
		m.had[cell] = append(m.had[cell], n)
	}
}

func (m *plainMachine) Swap(p, cell, old, new int) bool {
	has, there := m.access(p, cell)
	if !there || has != old {
		return false
	}
	m.had[cell] = append(m.had[cell], new)
	return true
}

func (m *plainMachine) Add(p, cell, n int) int {
	has, there := m.access(p, cell)
	if there {
		m.had[cell] = append(m.had[cell], sum(has, n))
	}
	return has
}

// sum is modulo 2^64, without a number that goes round.
func sum(a, b int) int {
	whole := new(big.Int).Add(big.NewInt(int64(a)), big.NewInt(int64(b)))
	round := new(big.Int).Lsh(big.NewInt(1), 64)
	if !whole.IsInt64() && whole.Sign() > 0 {
		whole.Sub(whole, round)
	}
	if !whole.IsInt64() {
		whole.Add(whole, round)
	}
	return int(whole.Int64())
}

func (m *plainMachine) Steps(p int) int {
	count := 0
	for _, by := range m.accesses {
		if by == p && 0 <= p && p < m.procs {
			count++
		}
	}
	return count
}

func (m *plainMachine) Len() int { return len(m.had) }

// call is one that a script makes of a machine, and what came of it as text.
type call struct {
	text string
	of   func(m memory) string
}

func cells(n int) call {
	return call{fmt.Sprintf("Cells(%d)", n), func(m memory) string { return fmt.Sprint(m.Cells(n)) }}
}

func reads(p, cell int) call {
	return call{fmt.Sprintf("Read(%d, %d)", p, cell), func(m memory) string { return fmt.Sprint(m.Read(p, cell)) }}
}

func writes(p, cell, n int) call {
	return call{fmt.Sprintf("Write(%d, %d, %d)", p, cell, n), func(m memory) string { m.Write(p, cell, n); return "" }}
}

func swaps(p, cell, old, new int) call {
	return call{fmt.Sprintf("Swap(%d, %d, %d, %d)", p, cell, old, new), func(m memory) string { return fmt.Sprint(m.Swap(p, cell, old, new)) }}
}

func adds(p, cell, n int) call {
	return call{fmt.Sprintf("Add(%d, %d, %d)", p, cell, n), func(m memory) string { return fmt.Sprint(m.Add(p, cell, n)) }}
}

// nobody is no process of any machine: what it reads counts for none.
const nobody = -7

// look is all that can be seen of a machine: the steps of the processes, and what the cells have.
func look(m memory, processes, places []int) string {
	out := fmt.Sprintf("Len %d", m.Len())
	for _, p := range processes {
		out += fmt.Sprintf(", Steps(%d) %d", p, m.Steps(p))
	}
	for _, cell := range places {
		out += fmt.Sprintf(", %d has %d", cell, m.Read(nobody, cell))
	}
	return out
}

// fewProcesses and fewCells are those that scripts by chance, and all short scripts, ask for.
func fewProcesses() []int { return []int{-1, 0, 1, 2, 3} }

func fewCells() []int { return []int{-1, 0, 1, 2, 3, 4, 5, 6, 7, 8} }

// wantAsTold makes the calls of a machine and of the plain one, and asks that nothing to be seen is another one behind any of them.
func wantAsTold(t *testing.T, procs int, script ...call) {
	t.Helper()
	m, p := New(procs), newPlain(procs)
	for i, c := range script {
		got, want := c.of(m), c.of(p)
		seen, told := look(m, fewProcesses(), fewCells()), look(p, fewProcesses(), fewCells())
		if got != want || seen != told {
			t.Fatalf("New(%d), %s:\n%s, %s, want\n%s, %s", procs, textOf(script[:i+1]), got, seen, want, told)
		}
	}
}

func textOf(script []call) string {
	var out []string
	for _, c := range script {
		out = append(out, c.text)
	}
	return strings.Join(out, ", ")
}

// chanceCall is one of all calls, by chance.
func chanceCall(chance *rand.Rand) call {
	numbers := []int{0, 1, 2, 0, 1, 2, 0, 1, 2, -1, least, greatest}
	p, cell := chance.IntN(5)-1, chance.IntN(7)-1
	a, b := numbers[chance.IntN(len(numbers))], numbers[chance.IntN(len(numbers))]
	switch chance.IntN(12) {
	case 0:
		return cells(chance.IntN(4) - 1)
	case 1, 2:
		return reads(p, cell)
	case 3, 4:
		return writes(p, cell, a)
	case 5, 6, 7:
		return adds(p, cell, a)
	}
	return swaps(p, cell, a, b)
}
