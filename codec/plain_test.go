package codec

import (
	"math"
	"slices"
	"strings"

	"ferryman/api"
	"ferryman/objs"
)

const most = 1 << 40 // MAX, as the chapters write it

// plainPut is a number as groups of seven bits, by division.
func plainPut(u uint64) string {
	if u < 128 {
		return string([]byte{byte(u)})
	}
	return string([]byte{byte(u%128 + 128)}) + plainPut(u/128)
}

// plainSigned is a number that may be below nought as groups.
func plainSigned(n int) string {
	if n < 0 {
		return plainPut(2*uint64(-(n+1)) + 1)
	}
	return plainPut(2 * uint64(n))
}

// plainGet is the number below the limit (0: of 64 bits) of which s begins with plainPut, and what stands behind it.
func plainGet(s string, limit uint64) (u uint64, rest string, there bool) {
	for i := range min(len(s), 10) {
		u += uint64(s[i]%128) << (7 * i)
		if s[i] < 128 {
			// What has a needless last group, or more than 64 bits, is put otherwise.
			there = strings.HasPrefix(s, plainPut(u)) && len(plainPut(u)) == i+1 && (limit == 0 || u < limit)
			return u, s[i+1:], there
		}
	}
	return 0, "", false
}

func plainGetSigned(s string) (int, string, bool) {
	u, rest, there := plainGet(s, 0)
	if u%2 == 1 {
		return -int(u/2) - 1, rest, there
	}
	return int(u / 2), rest, there
}

func plainOp(o api.Op) string {
	return plainPut(uint64(o.Code)) + plainSigned(o.A) + plainSigned(o.B)
}

// plainGetOp is the chapter's P5.1.
func plainGetOp(s string) (api.Op, int) {
	code, rest, isCode := plainGet(s, 1<<62)
	a, rest, isA := plainGetSigned(rest)
	b, rest, isB := plainGetSigned(rest)
	o := api.Op{Code: int(code), A: a, B: b}
	if !isCode || !isA || !isB || !objs.Fits(o) {
		return api.Op{}, 0
	}
	return o, len(s) - len(rest)
}

// plainState is the chapter's P5.2, also of a state that may not be.
func plainState(s api.State) string {
	seal := 0
	if s.Sealed {
		seal = s.To + 1
	}
	out := plainPut(uint64(s.Kind)) + plainPut(uint64(seal)) + plainPut(uint64(len(s.L)))
	for _, n := range s.L {
		out += plainSigned(n)
	}
	return out
}

// plainDecode is the chapter's P5.3.
func plainDecode(b string) (api.State, api.Errno) {
	kind, rest, isKind := plainGet(b, 1<<62)
	seal, rest, isSeal := plainGet(rest, 1<<62)
	count, rest, isCount := plainGet(rest, 1<<62)
	if !isKind || !isSeal || !isCount || seal > 3 || count > 128 {
		return api.State{}, api.ErrForm
	}
	s := api.State{Kind: int(kind), Sealed: seal != 0}
	if s.Sealed {
		s.To = int(seal) - 1
	}
	for range count {
		n, behind, there := plainGetSigned(rest)
		if !there {
			return api.State{}, api.ErrForm
		}
		s.L, rest = append(s.L, n), behind
	}
	if rest != "" {
		return api.State{}, api.ErrForm
	}
	if !objs.May(s) {
		return api.State{}, api.ErrArg
	}
	return s, api.OK
}

// edges are numbers of operations at their bounds, and where groups begin.
func edges() []int {
	out := []int{-most, -most + 1, -1, 0, 1, most - 1, most}
	for shift := 6; shift < 40; shift += 7 {
		out = append(out, 1<<shift-1, 1<<shift, -1<<shift, -1<<shift-1)
	}
	return out
}

// beyond are numbers that no operation and no state has.
func beyond() []int {
	return []int{math.MinInt, math.MinInt + 1, -1 << 62, -most - 1, most + 1, 1 << 62, math.MaxInt - 1, math.MaxInt}
}

// goodOps fit.
func goodOps() []api.Op {
	var out []api.Op
	for code := range 11 {
		for _, n := range edges() {
			out = append(out, api.Op{Code: code, A: n}, api.Op{Code: code, B: n}, api.Op{Code: code, A: n, B: -n}, api.Op{Code: code, A: most, B: n})
		}
	}
	return out
}

// wrongOps have one number that does not fit.
func wrongOps() []api.Op {
	var out []api.Op
	for _, code := range []int{math.MinInt, -1 << 32, -2, -1, 11, 12, 127, 128, 256, 1 << 32, 1<<62 - 1, 1 << 62, math.MaxInt} {
		out = append(out, api.Op{Code: code}, api.Op{Code: code, A: 3, B: -3})
	}
	for code := range 11 {
		for _, n := range beyond() {
			out = append(out, api.Op{Code: code, A: n}, api.Op{Code: code, B: n}, api.Op{Code: code, A: n, B: n}, api.Op{Code: code, A: 5, B: n})
		}
	}
	return out
}

// pairs are n of them, with rising keys from first on, all of which have that number.
func pairs(n, first, number int) []int {
	var out []int
	for i := range n {
		out = append(out, first+i, number)
	}
	return out
}

// openStates may be, and are not sealed: of each kind with no number, one, and as many as there may be.
func openStates() []api.State {
	var out []api.State
	for _, n := range edges() {
		out = append(out, api.State{Kind: 0, L: []int{n}}, api.State{Kind: 1, L: []int{n}}, api.State{Kind: 2, L: []int{n}})
	}
	for _, kind := range []int{2, 3} {
		for _, l := range [][]int{nil, {}, {7}, {-most, most}, {300, -300, 0}, slices.Repeat([]int{-1}, 63), slices.Repeat([]int{most}, 64)} {
			out = append(out, api.State{Kind: kind, L: l})
		}
	}
	for _, l := range [][]int{nil, {}, {0, 0}, {255, most}, {1, 50, 9, 0}, pairs(63, 0, 1), pairs(64, 0, 64), pairs(64, 192, most)} {
		out = append(out, api.State{Kind: 4, L: l}, api.State{Kind: 5, L: l})
	}
	return append(out, api.State{Kind: 4, L: []int{1, 5, 9, -5}}, api.State{Kind: 4, L: pairs(64, 63, -most)})
}

// goodStates may be: not sealed, and sealed for each engine.
func goodStates() []api.State {
	var out []api.State
	for _, s := range openStates() {
		out = append(out, s)
		for to := range 3 {
			s.Sealed, s.To = true, to
			out = append(out, s)
		}
	}
	return out
}

// toldStates may not be, but their numbers can be told: bytes of them have the form.
func toldStates() []api.State {
	out := []api.State{{}, {Sealed: true}, {Sealed: true, To: 2}, {Kind: 1}, {L: []int{1, 2}}, {Kind: 1, L: []int{1, 2, 3}}}
	for _, kind := range []int{6, 7, 127, 128, 256, 1 << 32, 1<<32 + 4, 1<<62 - 1} {
		out = append(out, api.State{Kind: kind}, api.State{Kind: kind, L: []int{0}}, api.State{Kind: kind, L: []int{1, 2}, Sealed: true, To: 1})
	}
	for _, n := range beyond() {
		for kind := range 6 {
			out = append(out, api.State{Kind: kind, L: []int{n}}, api.State{Kind: kind, L: []int{1, n}}, api.State{Kind: kind, L: []int{n, 1}, Sealed: true})
		}
	}
	for kind := range 4 {
		for _, n := range []int{65, 66, 127, 128} {
			out = append(out, api.State{Kind: kind, L: make([]int, n)})
		}
	}
	for _, l := range [][]int{{0}, {1, 2, 3}, make([]int, 127), make([]int, 128), {-1, 0}, {256, 0}, {5, 0, 5, 0}, {2, 0, 1, 0}, {0, 1, 5, most + 1}, pairs(64, 193, 0)} {
		out = append(out, api.State{Kind: 4, L: l}, api.State{Kind: 5, L: l}, api.State{Kind: 5, L: l, Sealed: true, To: 1})
	}
	return append(out, api.State{Kind: 5, L: []int{0, -1}}, api.State{Kind: 5, L: []int{1, 5, 2, -1}, Sealed: true, To: 2})
}

// untoldStates may not be, and no bytes tell them.
func untoldStates() []api.State {
	var out []api.State
	for _, kind := range []int{math.MinInt, -6, -1, 1 << 62, math.MaxInt} {
		out = append(out, api.State{Kind: kind}, api.State{Kind: kind, L: []int{0}, Sealed: true})
	}
	for kind := range 6 {
		for _, n := range []int{129, 130, 256, 1000} {
			out = append(out, api.State{Kind: kind, L: make([]int, n)})
		}
		out = append(out, api.State{Kind: kind, L: pairs(65, 0, 1)}, api.State{Kind: kind, L: pairs(256, 0, 1)})
	}
	for _, s := range openStates() {
		for _, to := range []int{math.MinInt, -1, 1, 2, 3, math.MaxInt} {
			s.Sealed, s.To = false, to
			out = append(out, s)
		}
		for _, to := range []int{math.MinInt, -2, -1, 3, 4, 255, 1<<62 - 1, math.MaxInt} {
			s.Sealed, s.To = true, to
			out = append(out, s)
		}
	}
	return out
}

// chance hands out numbers that look like chance, the same ones for one seed.
type chance uint64

func (c *chance) below(n int) int {
	*c = *c*6364136223846793005 + 1442695040888963407
	return int(uint64(*c)>>33) % n
}

// noNumbers are bytes that begin with no number, neither of Get nor of GetSigned; each is none with bytes behind it too.
func noNumbers() []string {
	return []string{
		"\x80\x00", "\x81\x00", "\xff\x00", "\x80\x80\x00", // a last group of nought
		strings.Repeat("\x80", 8) + "\x00", strings.Repeat("\xff", 9) + "\x00",
		strings.Repeat("\x80", 9) + "\x02", strings.Repeat("\xff", 9) + "\x7f", // the tenth is not 1
		strings.Repeat("\x80", 10) + "\x01", strings.Repeat("\xff", 10) + "\x01", strings.Repeat("\x81", 10) + "\x00", // more than ten
		strings.Repeat("\x80", 30) + "\x01",
	}
}

// cutNumbers are bytes that no number ends.
func cutNumbers() []string {
	return []string{"", "\x80", "\xff", "\x80\x80", strings.Repeat("\xff", 9), strings.Repeat("\x80", 10), strings.Repeat("\xff", 40)}
}

// someBytes hands out bytes of all sorts: short ones, those of operations and of states, and these with something changed.
func someBytes(each func(b string)) {
	few := []byte{0, 1, 2, 3, 4, 5, 6, 9, 10, 11, 126, 127, 128, 129, 130, 255}
	short := []string{""}
	for range 4 {
		for _, s := range short {
			each(s)
		}
		var longer []string
		for _, s := range short {
			for _, c := range few {
				longer = append(longer, s+string([]byte{c}))
			}
		}
		short = longer
	}
	for seed := range 40000 {
		c := chance(seed)
		b := make([]byte, c.below(14))
		for i := range b {
			b[i] = byte(c.below(256))
			if c.below(3) > 0 {
				b[i] = few[c.below(len(few))]
			}
		}
		each(string(b))
	}
	var whole []string
	for _, o := range goodOps() {
		whole = append(whole, plainOp(o))
	}
	for _, s := range slices.Concat(goodStates(), toldStates()) {
		whole = append(whole, plainState(s))
	}
	for i, s := range whole {
		each(s)
		c := chance(i)
		for range 30 {
			b := []byte(s)
			b[c.below(min(len(b), 12))] ^= byte(1 << c.below(8))
			each(string(b))
			b[c.below(len(b))] = few[c.below(len(few))]
			each(string(b))
			each(string(b[:c.below(len(b)+1)]))
		}
	}
}
