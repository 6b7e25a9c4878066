package objs

import (
	"maps"
	"math"
	"math/big"
	"slices"

	"ferryman/api"
)

const most = 1 << 40 // MAX, as the chapter writes it

// plainCut is the chapter's word "cut", of a number of any size.
func plainCut(n *big.Int) int {
	if n.Cmp(big.NewInt(-most)) < 0 {
		return -most
	}
	if n.Cmp(big.NewInt(most)) > 0 {
		return most
	}
	return int(n.Int64())
}

// plainSum is a and b together, cut.
func plainSum(a, b int) int {
	return plainCut(new(big.Int).Add(big.NewInt(int64(a)), big.NewInt(int64(b))))
}

// plainMay is the chapter's table, and the rest of May.
func plainMay(s api.State) bool {
	if s.To < 0 || s.To > 2 || s.To > 0 && !s.Sealed {
		return false
	}
	n := len(s.L)
	far := func(x int) bool { return x < -most || x > most }
	switch s.Kind {
	case 0, 1:
		return n == 1 && !slices.ContainsFunc(s.L, far)
	case 2, 3:
		return n < 65 && !slices.ContainsFunc(s.L, far)
	case 4, 5:
		if n%2 == 1 || n > 128 || slices.ContainsFunc(s.L, far) {
			return false
		}
		for i, x := range s.L {
			if i%2 == 0 && (x < 0 || x > 255) || i%2 == 0 && i > 0 && s.L[i-2] >= x || i%2 == 1 && s.Kind == 5 && x < 0 {
				return false
			}
		}
		return true
	}
	return false
}

// plainStep is the chapter's P4.2: pairs are a map, and sums have no bounds until they are cut.
func plainStep(s api.State, o api.Op) (api.State, int) {
	s.L = slices.Clone(s.L)
	switch {
	case !plainMay(s):
		return s, 0
	case s.Sealed:
		return s, -(1 << 50)
	case o.Code == 10:
		s.Sealed = true
		if s.To = o.A; o.A != 1 && o.A != 2 {
			s.To = 0
		}
		return s, 0
	}
	var resp int
	switch s.Kind {
	case 0, 1:
		s.L[0], resp = plainOne(s.Kind, s.L[0], o)
	case 2, 3:
		s.L, resp = plainLine(s.Kind, s.L, o)
	case 4:
		s.L, resp = plainPairs(s.L, o, plainStore)
	case 5:
		s.L, resp = plainPairs(s.L, o, plainLedger)
	}
	return s, resp
}

func plainOne(kind, n int, o api.Op) (int, int) {
	if o.Code == 7 {
		return n, n
	}
	if kind == 0 && o.Code == 1 {
		return plainSum(n, plainSum(o.A, 0)), n
	}
	if kind == 1 && o.Code == 2 {
		return plainSum(o.A, 0), n
	}
	return n, 0
}

func plainLine(kind int, l []int, o api.Op) ([]int, int) {
	n := len(l)
	switch {
	case o.Code == 3 && n == 64, o.Code == 4 && n == 0:
		return l, -1
	case o.Code == 3:
		return slices.Concat(l, []int{plainSum(o.A, 0)}), n + 1
	case o.Code == 4 && kind == 2:
		return l[1:], l[0]
	case o.Code == 4:
		return l[:n-1], l[n-1]
	case o.Code == 7:
		return l, n
	}
	return l, 0
}

// plainPairs lets one change a map, and writes it as numbers again.
func plainPairs(l []int, o api.Op, change func(m map[int]int, o api.Op) int) ([]int, int) {
	m := map[int]int{}
	for i := 0; i < len(l); i += 2 {
		m[l[i]] = l[i+1]
	}
	resp := change(m, o)
	var out []int
	for _, key := range slices.Sorted(maps.Keys(m)) {
		out = append(out, key, m[key])
	}
	return out, resp
}

func plainHas(m map[int]int, key int) int {
	if n, there := m[key]; there {
		return n
	}
	return -1
}

func plainStore(m map[int]int, o api.Op) int {
	if o.A < 0 || o.A > 255 {
		return -1
	}
	had := plainHas(m, o.A)
	_, there := m[o.A]
	switch o.Code {
	case 7:
		return had
	case 6:
		delete(m, o.A)
		return had
	case 5:
		if !there && len(m) == 64 {
			return -2
		}
		m[o.A] = plainSum(o.B, 0)
		return had
	}
	return 0
}

func plainLedger(m map[int]int, o api.Op) int {
	_, there := m[o.A]
	switch {
	case (o.Code == 7 || o.Code == 8) && (o.A < 0 || o.A > 255):
		return -1
	case o.Code == 7:
		return plainHas(m, o.A)
	case o.Code == 8 && o.B < 0:
		return -1
	case o.Code == 8 && !there && len(m) == 64:
		return -2
	case o.Code == 8:
		m[o.A] = plainSum(m[o.A], o.B)
		return m[o.A]
	case o.Code == 9:
		return plainMove(m, o)
	}
	return 0
}

func plainMove(m map[int]int, o api.Op) int {
	if o.A < 0 || o.A > 65535 || o.B < 0 {
		return 0
	}
	from, to := o.A>>8, o.A&255
	_, fromThere := m[from]
	_, toThere := m[to]
	if !fromThere || m[from] < o.B {
		return 0
	}
	if from == to {
		return 1
	}
	if !toThere && len(m) == 64 || m[to] > most-o.B {
		return 0
	}
	m[to] += o.B
	m[from] -= o.B
	return 1
}

// chance hands out numbers that look like chance, the same ones for one seed.
type chance uint64

func (c *chance) below(n int) int {
	*c = *c*6364136223846793005 + 1442695040888963407
	return int(uint64(*c)>>33) % n
}

// edges are numbers at bounds, and beside them: of ints, values, lengths, keys, accounts and engines.
func edges() []int {
	return []int{
		math.MinInt, math.MinInt + 1, -1 << 62, api.Void, -most - 1, -most, -most + 1, -65536, -256, -3, -2, -1,
		0, 1, 2, 3, 4, 5, 10, 11, 63, 64, 65, 127, 128, 254, 255, 256, 257, 65279, 65280, 65534, 65535, 65536, 65537,
		most/2 - 1, most / 2, most/2 + 1, most - 6, most - 5, most - 1, most, most + 1, 1 << 50, 1 << 62, math.MaxInt - 1, math.MaxInt,
	}
}

// codes are all that there are, and some below and above them.
func codes() []int {
	out := []int{math.MinInt, -1 << 32, -256, -10, -2, -1, 11, 12, 256, 257, 1 << 32, 1<<32 + 1, math.MaxInt}
	for code := range 11 {
		out = append(out, code)
	}
	return out
}

// pairs are n of them, with every step-th key from first on, all of which have that number.
func pairs(n, first, step, number int) []int {
	var out []int
	for i := range n {
		out = append(out, first+i*step, number)
	}
	return out
}

// rising are the numbers from 1 to n.
func rising(n int) []int {
	var out []int
	for i := range n {
		out = append(out, i+1)
	}
	return out
}

// goodStates may be; none of them is sealed.
func goodStates() []api.State {
	var out []api.State
	for _, kind := range []int{0, 1} {
		for _, n := range []int{-most, -most + 1, -most + 5, -1, 0, 1, 5, most - 5, most - 1, most} {
			out = append(out, api.State{Kind: kind, L: []int{n}})
		}
	}
	for _, kind := range []int{2, 3} {
		for _, l := range [][]int{nil, {}, {0}, {7}, {1, 2}, {-most, most}, {9, -1, 9}, rising(62), rising(63), rising(64)} {
			out = append(out, api.State{Kind: kind, L: l})
		}
	}
	for _, l := range [][]int{
		nil, {}, {0, 0}, {255, most}, {1, 50}, {1, 50, 2, 20}, {0, 5, 1, most - 5, 255, most}, {254, 1, 255, most - 1},
		pairs(62, 1, 4, 9), pairs(63, 1, 4, 9), pairs(63, 0, 4, most), pairs(64, 0, 1, 5), pairs(64, 0, 4, most-5), pairs(64, 3, 4, most), pairs(64, 192, 1, 0),
	} {
		out = append(out, api.State{Kind: 4, L: l}, api.State{Kind: 5, L: l})
	}
	return append(out, api.State{Kind: 4, L: []int{0, -1, 5, -most, 255, -most + 1}}, api.State{Kind: 4, L: pairs(64, 1, 2, -7)})
}

// sealedStates may be, and are sealed.
func sealedStates() []api.State {
	var out []api.State
	for i, s := range goodStates() {
		s.Sealed, s.To = true, i%3
		out = append(out, s)
	}
	return out
}

// wrongStates may not be.
func wrongStates() []api.State {
	out := []api.State{{}, {Sealed: true}}
	for _, kind := range []int{math.MinInt, -1 << 32, -6, -1, 6, 7, 256, 1 << 32, 1<<32 + 2, math.MaxInt} {
		out = append(out, api.State{Kind: kind}, api.State{Kind: kind, L: []int{0}}, api.State{Kind: kind, L: []int{1, 2}, Sealed: true, To: 1})
	}
	for _, kind := range []int{0, 1} {
		out = append(out, api.State{Kind: kind, L: []int{}}, api.State{Kind: kind, L: []int{0, 0}}, api.State{Kind: kind, L: []int{0, 0, 0}})
	}
	for _, kind := range []int{2, 3} {
		out = append(out, api.State{Kind: kind, L: rising(65)}, api.State{Kind: kind, L: rising(66)}, api.State{Kind: kind, L: rising(1000)})
	}
	for _, n := range []int{math.MinInt, -most - 1, most + 1, math.MaxInt} {
		for kind := range 4 {
			out = append(out, api.State{Kind: kind, L: []int{n}})
		}
		for _, kind := range []int{2, 3} {
			out = append(out, api.State{Kind: kind, L: []int{1, n}}, api.State{Kind: kind, L: append(rising(63), n)}, api.State{Kind: kind, L: []int{n, 1, 2}})
		}
	}
	for _, l := range [][]int{
		{0}, {1, 2, 3}, pairs(64, 0, 1, 0)[:127], append(pairs(64, 0, 1, 0), 200), pairs(65, 0, 1, 5), pairs(66, 0, 1, 5), pairs(256, 0, 1, 5),
		{-1, 0}, {256, 0}, {math.MinInt, 0}, {math.MaxInt, 0}, {-1, 0, 5, 0}, {5, 0, 256, 0}, pairs(64, 193, 1, 0), pairs(64, -1, 1, 0),
		{5, 0, 5, 0}, {5, 1, 5, 2}, {2, 0, 1, 0}, {0, 0, 0, 0}, {255, 0, 255, 0}, {1, 0, 2, 0, 2, 0}, {1, 0, 3, 0, 2, 0}, {255, 0, 0, 0},
		{0, math.MinInt}, {0, -most - 1}, {0, most + 1}, {0, math.MaxInt}, {0, 1, 5, most + 1}, {0, most + 1, 5, 1},
	} {
		out = append(out, api.State{Kind: 4, L: l}, api.State{Kind: 5, L: l})
	}
	for _, l := range [][]int{{0, -1}, {1, -most}, {1, 5, 2, -1}, {1, -1, 2, 5}} {
		out = append(out, api.State{Kind: 5, L: l})
	}
	return append(out, wronglySealed()...)
}

// wronglySealed have numbers that may be, and a To that may not.
func wronglySealed() []api.State {
	var out []api.State
	for _, s := range goodStates() {
		for _, to := range []int{math.MinInt, -1, 1, 2, 3, math.MaxInt} {
			s.Sealed, s.To = false, to
			out = append(out, s)
		}
		for _, to := range []int{math.MinInt, -1, 3, 4, 256, 1 << 32, math.MaxInt} {
			s.Sealed, s.To = true, to
			out = append(out, s)
		}
	}
	return out
}

// allStates are those that may be, and those that may not.
func allStates() []api.State { return slices.Concat(goodStates(), sealedStates(), wrongStates()) }
