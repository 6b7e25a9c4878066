package files

import (
	"fmt"
	"maps"
	"math"
	"math/rand/v2"
	"slices"
	"strings"
	"testing"

	"ferryman/api"
)

const (
	topName = 1<<20 - 1
	noName  = 1 << 20
)

// disk is what both the program's disk and the plain one are.
type disk interface {
	Append(name int, b []byte) api.Errno
	Read(name int) ([]byte, api.Errno)
	Sync(name int) api.Errno
	Rename(name, to int) api.Errno
	Remove(name int) api.Errno
	SyncDir() api.Errno
	Names() []int
	Used() int
	Cut(n int)
	Crash(names int, keep []int)
	On() bool
}

// plainDisk is the chapter's words: it has all directories that there were since the kept one, whole, so that a change that waits is one directory more, and what a Crash leaves is one of them.
type plainDisk struct {
	room        int
	text        []string // of each file that there ever was
	kept        []int    // how many bytes of each are
	directories []map[int]int
	isOut       bool
	isCut       bool
	left        int
}

func newPlain(room int) *plainDisk {
	return &plainDisk{room: room, directories: []map[int]int{{}}}
}

func (p *plainDisk) now() map[int]int { return p.directories[len(p.directories)-1] }

// waiting is how many changes do.
func (p *plainDisk) waiting() int { return len(p.directories) - 1 }

func (p *plainDisk) change(change func(dir map[int]int)) {
	dir := maps.Clone(p.now())
	change(dir)
	p.directories = append(p.directories, dir)
}

func (p *plainDisk) ok() api.Errno {
	p.left--
	if p.isCut && p.left == 0 {
		p.isOut = true
	}
	return api.OK
}

func (p *plainDisk) Append(name int, b []byte) api.Errno {
	if p.isOut {
		return api.ErrDown
	}
	if name < 0 || name > topName {
		return api.ErrArg
	}
	if p.Used()+len(b) > p.room {
		return api.ErrNoSpace
	}
	if _, there := p.now()[name]; !there {
		p.text, p.kept = append(p.text, ""), append(p.kept, 0)
		p.change(func(dir map[int]int) { dir[name] = len(p.text) - 1 })
	}
	p.text[p.now()[name]] += string(b)
	return p.ok()
}

// there: the error of the calls that want a name that there is.
func (p *plainDisk) there(name int) api.Errno {
	if p.isOut {
		return api.ErrDown
	}
	if _, there := p.now()[name]; !there {
		return api.ErrNone
	}
	return api.OK
}

func (p *plainDisk) Read(name int) ([]byte, api.Errno) {
	if err := p.there(name); err != api.OK {
		return nil, err
	}
	return []byte(p.text[p.now()[name]]), api.OK
}

func (p *plainDisk) Sync(name int) api.Errno {
	if err := p.there(name); err != api.OK {
		return err
	}
	id := p.now()[name]
	p.kept[id] = len(p.text[id])
	return p.ok()
}

func (p *plainDisk) Rename(name, to int) api.Errno {
	if err := p.there(name); err != api.OK {
		return err
	}
	if to < 0 || to > topName {
		return api.ErrArg
	}
	if name != to {
		p.change(func(dir map[int]int) {
			dir[to] = dir[name]
			delete(dir, name)
		})
	}
	return p.ok()
}

func (p *plainDisk) Remove(name int) api.Errno {
	if err := p.there(name); err != api.OK {
		return err
	}
	p.change(func(dir map[int]int) { delete(dir, name) })
	return p.ok()
}

func (p *plainDisk) SyncDir() api.Errno {
	if p.isOut {
		return api.ErrDown
	}
	p.directories = []map[int]int{p.now()}
	return p.ok()
}

func (p *plainDisk) Names() []int { return slices.Sorted(maps.Keys(p.now())) }

func (p *plainDisk) Used() int {
	used := 0
	for _, id := range p.now() {
		used += len(p.text[id])
	}
	return used
}

func (p *plainDisk) Cut(n int) {
	p.isCut, p.left = true, n
	p.isOut = p.isOut || n < 1
}

func (p *plainDisk) On() bool { return !p.isOut }

func (p *plainDisk) Crash(names int, keep []int) {
	dir := p.directories[max(0, names)%len(p.directories)]
	for i, name := range slices.Sorted(maps.Keys(dir)) {
		id, more := dir[name], 0
		if len(keep) > 0 && keep[i%len(keep)] > 0 {
			more = keep[i%len(keep)] % (len(p.text[id]) - p.kept[id] + 1)
		}
		p.kept[id] += more
		p.text[id] = p.text[id][:p.kept[id]]
	}
	p.directories = []map[int]int{dir}
	p.isOut, p.isCut = false, false
}

// call is one that a script makes of a disk, and what came of it as text.
type call struct {
	text string
	of   func(d disk) string
}

func told(err api.Errno) string { return fmt.Sprintf("error %d", err) }

func appends(name int, b string) call {
	return call{fmt.Sprintf("Append(%d, %.20q)", name, b), func(d disk) string { return told(d.Append(name, []byte(b))) }}
}

func reads(name int) call {
	return call{fmt.Sprintf("Read(%d)", name), func(d disk) string {
		b, err := d.Read(name)
		return fmt.Sprintf("%q, error %d", b, err)
	}}
}

func syncs(name int) call {
	return call{fmt.Sprintf("Sync(%d)", name), func(d disk) string { return told(d.Sync(name)) }}
}

func renames(name, to int) call {
	return call{fmt.Sprintf("Rename(%d, %d)", name, to), func(d disk) string { return told(d.Rename(name, to)) }}
}

func removes(name int) call {
	return call{fmt.Sprintf("Remove(%d)", name), func(d disk) string { return told(d.Remove(name)) }}
}

func syncsDir() call {
	return call{"SyncDir()", func(d disk) string { return told(d.SyncDir()) }}
}

func cuts(n int) call {
	return call{fmt.Sprintf("Cut(%d)", n), func(d disk) string { d.Cut(n); return "" }}
}

func crashes(names int, keep ...int) call {
	return call{fmt.Sprintf("Crash(%d, %v)", names, keep), func(d disk) string { d.Crash(names, keep); return "" }}
}

// look is all that can be seen of a disk.
func look(d disk, names []int) string {
	out := fmt.Sprintf("names %v, used %d, on %t", d.Names(), d.Used(), d.On())
	for _, name := range names {
		b, err := d.Read(name)
		out += fmt.Sprintf("; %d: %q, error %d", name, b, err)
	}
	return out
}

// fewNames are those that scripts by chance, and all short scripts, ask for.
func fewNames() []int { return []int{-1, 0, 1, 2, topName, noName} }

// wantAsTold makes the calls of a disk and of the plain one, and asks that nothing to be seen is another one behind any of them. It answers both.
func wantAsTold(t *testing.T, room int, script ...call) (*Disk, *plainDisk) {
	t.Helper()
	d, p := New(room), newPlain(room)
	for i, c := range script {
		got, want := c.of(d), c.of(p)
		seen, told := look(d, fewNames()), look(p, fewNames())
		if got != want || seen != told {
			t.Fatalf("New(%d), %s:\n%s, %s, want\n%s, %s", room, textOf(script[:i+1]), got, seen, want, told)
		}
	}
	return d, p
}

func textOf(script []call) string {
	var out []string
	for _, c := range script {
		out = append(out, c.text)
	}
	return strings.Join(out, ", ")
}

// wantCrashesAsTold asks of each Crash behind a script what the words say: of each number of changes that wait, and one more.
func wantCrashesAsTold(t *testing.T, room int, script ...call) {
	t.Helper()
	_, p := wantAsTold(t, room, script...)
	for names := range p.waiting() + 2 {
		for _, keep := range [][]int{nil, {1}, {5, 0, 2}} {
			wantAsTold(t, room, slices.Concat(script, []call{crashes(names, keep...)})...)
		}
	}
}

// chanceCall is one of all calls, by chance.
func chanceCall(chance *rand.Rand) call {
	names := []int{0, 1, 2, 0, 1, 2, 0, 1, 2, topName, -1, noName}
	name, to := names[chance.IntN(len(names))], names[chance.IntN(len(names))]
	switch chance.IntN(16) {
	case 0, 1, 2, 3:
		return appends(name, strings.Repeat(string(rune('a'+chance.IntN(26))), chance.IntN(5)))
	case 4, 5, 6:
		return syncs(name)
	case 7, 8, 9:
		return renames(name, to)
	case 10, 11:
		return removes(name)
	case 12:
		return syncsDir()
	case 13:
		return cuts([]int{-1, 0, 1, 2, 5, 20}[chance.IntN(6)])
	}
	return crashes(chanceNumber(chance), chanceNumbers(chance)...)
}

func chanceNumber(chance *rand.Rand) int {
	some := []int{-1, math.MinInt, math.MaxInt, 1 << 40, 1000}
	if n := chance.IntN(20); n < len(some) {
		return some[n]
	}
	return chance.IntN(8)
}

func chanceNumbers(chance *rand.Rand) []int {
	var out []int
	for range chance.IntN(4) {
		out = append(out, chanceNumber(chance))
	}
	return out
}
