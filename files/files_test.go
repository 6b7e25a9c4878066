package files

import (
	"fmt"
	"math"
	"math/rand/v2"
	"slices"
	"testing"

	"ferryman/api"
)

// wantOK asks of calls that they are done.
func wantOK(t *testing.T, errs ...api.Errno) {
	t.Helper()
	for i, err := range errs {
		if err != api.OK {
			t.Errorf("call %d: error %d", i, err)
		}
	}
}

// wantErr asks of a call that error.
func wantErr(t *testing.T, got, want api.Errno) {
	t.Helper()
	if got != want {
		t.Errorf("error %d, want %d", got, want)
	}
}

func wantFile(t *testing.T, d *Disk, name int, want string) {
	t.Helper()
	if b, err := d.Read(name); string(b) != want || err != api.OK {
		t.Errorf("Read(%d) = %.40q, error %d, want %.40q", name, b, err, want)
	}
}

// wantNone asks of Read ErrNone, and no bytes (R4).
func wantNone(t *testing.T, d *Disk, name int) {
	t.Helper()
	if b, err := d.Read(name); len(b) != 0 || err != api.ErrNone {
		t.Errorf("Read(%d) = %.40q, error %d, want ErrNone", name, b, err)
	}
}

func wantNames(t *testing.T, d *Disk, want ...int) {
	t.Helper()
	if l := d.Names(); !slices.Equal(l, want) {
		t.Errorf("Names() = %v, want %v", l, want)
	}
}

func wantUsed(t *testing.T, d *Disk, want int) {
	t.Helper()
	if n := d.Used(); n != want {
		t.Errorf("Used() = %d, want %d", n, want)
	}
}

func wantOn(t *testing.T, d *Disk, want bool) {
	t.Helper()
	if d.On() != want {
		t.Errorf("On() = %t, want %t", d.On(), want)
	}
}

// diskOf is a disk with much room, behind calls each of which must be done.
func diskOf(t *testing.T, script ...call) *Disk {
	t.Helper()
	d := New(1 << 20)
	for i, c := range script {
		if got := c.of(d); got != "" && got != "error 0" {
			t.Fatalf("%s: %s", textOf(script[:i+1]), got)
		}
	}
	return d
}

// crashed is a disk behind calls and a Crash.
func crashed(t *testing.T, names int, keep []int, script ...call) *Disk {
	t.Helper()
	d := diskOf(t, script...)
	d.Crash(names, keep)
	return d
}

// P11.2, P11.3, P11.5: the chapter's example.
func TestTheExample(t *testing.T) {
	wantFile(t, crashed(t, 0, []int{2}, appends(5, "abc"), syncsDir()), 5, "ab")
	wantNone(t, crashed(t, 0, []int{2}, appends(5, "abc")), 5)
}

// P11.1: no files, and the power is on.
func TestNew(t *testing.T) {
	for _, room := range []int{math.MinInt, -1, 0, 1, 1000, math.MaxInt} {
		d := New(room)
		wantNames(t, d)
		wantUsed(t, d, 0)
		wantOn(t, d, true)
		for _, name := range fewNames() {
			wantNone(t, d, name)
		}
	}
}

// P11.1: a disk has nothing of another one.
func TestDisksAreTheirOwn(t *testing.T) {
	a, b := New(10), New(10)
	wantOK(t, a.Append(1, []byte("a")), b.Append(2, []byte("bc")))
	a.Cut(0)
	wantNames(t, a, 1)
	wantNames(t, b, 2)
	wantUsed(t, a, 1)
	wantUsed(t, b, 2)
	wantOn(t, b, true)
}

// P11.1: the names rise, whatever the order in which they came, and all changes that wait are seen in them.
func TestNames(t *testing.T) {
	d := diskOf(t, appends(7, "a"), appends(topName, "b"), appends(0, ""), appends(300, "cd"))
	wantNames(t, d, 0, 7, 300, topName)
	wantUsed(t, d, 4)
	wantOK(t, d.Rename(300, 5))
	wantNames(t, d, 0, 5, 7, topName)
	wantOK(t, d.Remove(7), d.Append(6, []byte("efg")))
	wantNames(t, d, 0, 5, 6, topName)
	wantUsed(t, d, 6)
}

// P11.1: Used is the bytes of files that have a name.
func TestUsed(t *testing.T) {
	d := diskOf(t, appends(1, "abc"), appends(2, "de"), appends(1, "f"))
	wantUsed(t, d, 6)
	wantOK(t, d.Sync(1), d.SyncDir())
	wantUsed(t, d, 6)
	wantOK(t, d.Rename(1, 3))
	wantUsed(t, d, 6)
	wantOK(t, d.Rename(3, 3))
	wantUsed(t, d, 6)
	wantOK(t, d.Rename(2, 3)) // what 3 had has no name
	wantUsed(t, d, 2)
	wantOK(t, d.Remove(3))
	wantUsed(t, d, 0)
	d.Crash(0, nil)
	wantUsed(t, d, 4)
	wantOK(t, d.Append(1, []byte("x")))
	wantUsed(t, d, 5)
}

// P11.1: Names, Used and On are answered while the power is out, too.
func TestWhatIsSeenWhileThePowerIsOut(t *testing.T) {
	d := diskOf(t, appends(1, "abc"), syncsDir(), appends(2, "d"), cuts(0))
	wantNames(t, d, 1, 2)
	wantUsed(t, d, 4)
	wantOn(t, d, false)
}

// P11.2: bytes stand behind one another, of one file and of several; a file may have none.
func TestAppendAndRead(t *testing.T) {
	d := diskOf(t, appends(1, "ab"), appends(2, "x"), appends(1, ""), appends(1, "c"), appends(3, ""), appends(2, "y\x00z"), appends(1, "def"))
	wantFile(t, d, 1, "abcdef")
	wantFile(t, d, 2, "xy\x00z")
	wantFile(t, d, 3, "")
	wantNames(t, d, 1, 2, 3)
	wantOK(t, d.Append(4, nil), d.Append(4, nil), d.Append(4, []byte{0}))
	wantFile(t, d, 4, "\x00")
}

// P11.2: which names may be.
func TestAppendOfEachName(t *testing.T) {
	for _, name := range []int{math.MinInt, -2, -1, noName, noName + 1, math.MaxInt} {
		d := New(10)
		wantErr(t, d.Append(name, []byte("a")), api.ErrArg)
		wantErr(t, d.Append(name, nil), api.ErrArg)
		wantNames(t, d)
		wantUsed(t, d, 0)
		wantNone(t, d, name)
	}
	for _, name := range []int{0, 1, topName - 1, topName} {
		d := New(10)
		wantErr(t, d.Append(name, []byte("a")), api.OK)
		wantNames(t, d, name)
		wantFile(t, d, name, "a")
	}
}

// P11.2: what has just room, and what has one byte too little. What is refused changes nothing.
func TestRoom(t *testing.T) {
	for _, room := range []int{math.MinInt, -2, -1} {
		d := New(room)
		wantErr(t, d.Append(1, nil), api.ErrNoSpace) // 0 is more than room
		wantErr(t, d.Append(1, []byte("a")), api.ErrNoSpace)
		wantNames(t, d)
	}
	none := New(0)
	wantErr(t, none.Append(1, []byte("a")), api.ErrNoSpace)
	wantNames(t, none)
	wantErr(t, none.Append(1, nil), api.OK)
	wantNames(t, none, 1)
	d := New(5)
	wantErr(t, d.Append(1, []byte("abcdef")), api.ErrNoSpace)
	wantNames(t, d)
	wantOK(t, d.Append(1, []byte("abc")))
	wantErr(t, d.Append(1, []byte("def")), api.ErrNoSpace)
	wantErr(t, d.Append(2, []byte("def")), api.ErrNoSpace)
	wantFile(t, d, 1, "abc")
	wantNames(t, d, 1)
	wantUsed(t, d, 3)
	wantOK(t, d.Append(2, []byte("de")))
	wantErr(t, d.Append(1, []byte("x")), api.ErrNoSpace)
	wantOK(t, d.Append(1, nil), d.Append(3, nil)) // Used is room, not more
	wantUsed(t, d, 5)
}

// P11.2: the room of files that have no name any more, though their change waits.
func TestRoomIsFreeAgain(t *testing.T) {
	d := New(5)
	wantOK(t, d.Append(1, []byte("abc")), d.SyncDir(), d.Append(2, []byte("de")), d.Remove(1))
	wantErr(t, d.Append(2, []byte("wxyz")), api.ErrNoSpace)
	wantOK(t, d.Append(2, []byte("xyz")), d.Append(3, nil), d.Rename(3, 2), d.Append(3, []byte("12345")))
	wantErr(t, d.Append(3, []byte("6")), api.ErrNoSpace)
}

// P11.2, P11.5: a Crash may bring more than there is room for; then Append has none, not even for no bytes.
func TestMoreThanRoomBehindACrash(t *testing.T) {
	d := New(5)
	wantOK(t, d.Append(1, []byte("ab")), d.Append(2, []byte("cde")), d.Remove(2), d.Append(1, []byte("xyz")))
	d.Crash(2, []int{5, 3})
	wantFile(t, d, 1, "abxyz")
	wantFile(t, d, 2, "cde")
	wantUsed(t, d, 8)
	wantErr(t, d.Append(1, nil), api.ErrNoSpace)
	wantErr(t, d.Append(3, nil), api.ErrNoSpace)
	wantNames(t, d, 1, 2)
	wantOK(t, d.Sync(1), d.Remove(2), d.Append(1, nil))
}

// P11.2: Sync keeps all bytes that there are, of that file alone; those behind it are not kept.
func TestSync(t *testing.T) {
	script := []call{appends(1, "abc"), appends(2, "de"), syncsDir(), syncs(1), appends(1, "fg"), appends(2, "h")}
	d := crashed(t, 0, nil, script...)
	wantFile(t, d, 1, "abc")
	wantFile(t, d, 2, "")
	d = crashed(t, 0, nil, append(script, syncs(1), syncs(2), syncs(2))...)
	wantFile(t, d, 1, "abcfg")
	wantFile(t, d, 2, "deh")
}

// P11.2: Sync keeps bytes, and no name.
func TestSyncKeepsNoName(t *testing.T) {
	d := crashed(t, 0, []int{9}, appends(1, "abc"), syncs(1))
	wantNames(t, d)
	d = crashed(t, 1, nil, appends(1, "abc"), syncs(1))
	wantFile(t, d, 1, "abc")
}

// P11.2, P11.3: a name that there is not, whether it may be or not.
func TestNamesThatThereAreNot(t *testing.T) {
	d := diskOf(t, appends(1, "a"), appends(2, "b"), removes(2), appends(3, "c"), renames(3, 4))
	for _, name := range []int{math.MinInt, -1, 0, 2, 3, topName, noName, math.MaxInt} {
		wantNone(t, d, name)
		wantErr(t, d.Sync(name), api.ErrNone)
		wantErr(t, d.Rename(name, 1), api.ErrNone)
		wantErr(t, d.Rename(name, name), api.ErrNone)
		wantErr(t, d.Remove(name), api.ErrNone)
	}
	wantNames(t, d, 1, 4)
}

// P11.3: Rename to a name that there is not, and to one that there is, whose file is gone.
func TestRename(t *testing.T) {
	d := diskOf(t, appends(1, "abc"), appends(2, "de"), renames(1, 5))
	wantNone(t, d, 1)
	wantFile(t, d, 5, "abc")
	wantOK(t, d.Rename(5, 2))
	wantNone(t, d, 5)
	wantFile(t, d, 2, "abc")
	wantNames(t, d, 2)
	wantOK(t, d.Append(2, []byte("f")), d.Append(5, []byte("g"))) // 5 is new
	wantFile(t, d, 2, "abcf")
	wantFile(t, d, 5, "g")
}

// P11.3: names to which there may be a Rename.
func TestRenameToEachName(t *testing.T) {
	d := diskOf(t, appends(7, "a"))
	for _, to := range []int{math.MinInt, -1, noName, noName + 1, math.MaxInt} {
		wantErr(t, d.Rename(7, to), api.ErrArg)
		wantNames(t, d, 7)
	}
	wantOK(t, d.Rename(7, 0))
	wantNames(t, d, 0)
	wantOK(t, d.Rename(0, topName))
	wantNames(t, d, topName)
	wantFile(t, d, topName, "a")
}

// P11.3: a name renamed to itself stays, and no change waits.
func TestRenameToItself(t *testing.T) {
	d := diskOf(t, appends(1, "abc"), syncsDir(), renames(1, 1), renames(1, 1), removes(1))
	d.Crash(1, []int{3}) // one of the one that waits
	wantNames(t, d)
	d = diskOf(t, appends(1, "abc"), syncsDir(), renames(1, 1), removes(1))
	wantNone(t, d, 1)
	d.Crash(2, []int{3}) // two modulo two
	wantFile(t, d, 1, "abc")
}

// P11.3: a file that is renamed is the same one: what is kept of it is kept, what stands behind it is of either name.
func TestARenamedFileIsTheSame(t *testing.T) {
	script := []call{appends(1, "abc"), syncs(1), syncsDir(), appends(1, "d"), renames(1, 2), appends(2, "e")}
	for names, name := range []int{1, 2} {
		wantFile(t, crashed(t, names, nil, script...), name, "abc")
		wantFile(t, crashed(t, names, []int{1}, script...), name, "abcd")
		wantFile(t, crashed(t, names, []int{2}, script...), name, "abcde")
		wantFile(t, crashed(t, names, nil, append(script, syncs(2))...), name, "abcde")
	}
}

// P11.3: Remove, and Append to the name again: that is another file, of which nothing is kept.
func TestRemove(t *testing.T) {
	script := []call{appends(1, "abc"), appends(2, "x"), syncs(1), syncsDir(), removes(1), appends(1, "de")}
	d := diskOf(t, script...)
	wantFile(t, d, 1, "de")
	wantFile(t, d, 2, "x")
	wantFile(t, crashed(t, 0, nil, script...), 1, "abc")
	wantNames(t, crashed(t, 1, nil, script...), 2)
	wantFile(t, crashed(t, 2, nil, script...), 1, "")
	wantFile(t, crashed(t, 2, []int{1}, script...), 1, "d")
	wantFile(t, crashed(t, 0, nil, append(script, syncs(1))...), 1, "abc")
	wantFile(t, crashed(t, 2, nil, append(script, syncs(1))...), 1, "de")
}

// P11.3: SyncDir keeps names, and no bytes; behind it no change waits.
func TestSyncDir(t *testing.T) {
	script := []call{appends(1, "abc"), appends(2, "de"), renames(1, 3), removes(2), syncsDir()}
	for names := range 7 {
		d := crashed(t, names, nil, script...)
		wantNames(t, d, 3)
		wantFile(t, d, 3, "")
		wantFile(t, crashed(t, names, []int{3}, script...), 3, "abc")
	}
	wantNames(t, crashed(t, 0, nil, append(script, removes(3))...), 3)
	wantNames(t, crashed(t, 0, nil, append(script, removes(3), syncsDir())...))
	wantOK(t, New(0).SyncDir())
}

// P11.3, P11.5: which changes wait behind each call: of how many Crash takes all but those that are none.
func TestWhichChangesWait(t *testing.T) {
	for _, c := range []struct {
		waiting int
		script  []call
	}{
		{0, nil},
		{0, []call{syncs(1)}},
		{0, []call{appends(1, "")}},
		{0, []call{appends(1, "x"), appends(2, "x")}},
		{0, []call{renames(1, 1)}},
		{0, []call{syncsDir()}},
		{0, []call{cuts(5), syncsDir()}},
		{1, []call{appends(3, "")}},
		{1, []call{appends(3, "x"), appends(3, "y"), syncs(3)}},
		{1, []call{renames(1, 3)}},
		{1, []call{renames(1, 2)}},
		{1, []call{removes(1)}},
		{2, []call{removes(1), appends(1, "x")}},
		{2, []call{renames(1, 3), renames(3, 1)}},
		{2, []call{appends(3, ""), removes(3)}},
		{3, []call{appends(3, ""), renames(3, 4), removes(4)}},
		{1, []call{appends(3, ""), renames(3, 4), syncsDir(), removes(4)}},
		{0, []call{appends(3, ""), renames(3, 4), removes(4), syncsDir()}},
		{0, []call{removes(1), crashes(1)}},
		{0, []call{removes(1), crashes(0)}},
	} {
		script := slices.Concat([]call{appends(1, "abc"), appends(2, "de"), syncsDir()}, c.script)
		_, p := wantAsTold(t, 1000, script...)
		if p.waiting() != c.waiting {
			t.Fatalf("%s: %d changes wait, want %d", textOf(script), p.waiting(), c.waiting)
		}
		// A mark behind them is there just when all of them and it are kept.
		script = append(script, appends(9, ""))
		for names := range 3 * (c.waiting + 2) {
			isKept := slices.Contains(crashed(t, names, nil, script...).Names(), 9)
			if want := names%(c.waiting+2) == c.waiting+1; isKept != want {
				t.Errorf("%s, Crash(%d): the last change is kept: %t, want %t", textOf(script), names, isKept, want)
			}
		}
	}
}

// P11.2, P11.3: calls that are refused leave all as it was, and no change waits.
func TestRefusedCallsChangeNothing(t *testing.T) {
	ahead := []call{appends(1, "abc"), syncsDir(), appends(2, "d")}
	refused := []call{
		appends(-1, "x"), appends(noName, "x"), appends(3, "xxxxxxx"), appends(1, "xxxxxxx"), reads(3), syncs(3), syncs(-1),
		renames(3, 1), renames(1, -1), renames(1, noName), removes(3), removes(-1),
	}
	for _, keep := range [][]int{nil, {9, 9}, {4}} {
		for names := range 4 {
			a, _ := wantAsTold(t, 10, slices.Concat(ahead, []call{crashes(names, keep...)})...)
			b, _ := wantAsTold(t, 10, slices.Concat(ahead, refused, []call{crashes(names, keep...)})...)
			if look(a, fewNames()) != look(b, fewNames()) {
				t.Errorf("Crash(%d, %v): %s, want %s", names, keep, look(b, fewNames()), look(a, fewNames()))
			}
		}
	}
}

// R2, P1: where more than one error fits, the first one is told.
func TestTheOrderOfTheErrors(t *testing.T) {
	d := New(3)
	wantOK(t, d.Append(1, []byte("abc")))
	wantErr(t, d.Append(-1, []byte("x")), api.ErrArg) // ahead of ErrNoSpace
	wantErr(t, d.Append(noName, []byte("x")), api.ErrArg)
	wantErr(t, New(-1).Append(-1, nil), api.ErrArg)
	wantErr(t, d.Rename(2, -1), api.ErrNone) // ahead of ErrArg
	wantErr(t, d.Rename(2, noName), api.ErrNone)
	wantErr(t, d.Rename(-1, -1), api.ErrNone)
	wantErr(t, d.Rename(1, -1), api.ErrArg)
	d.Cut(0)
	for _, name := range []int{-1, 0, 1, noName} { // ErrDown ahead of all others
		wantErr(t, d.Append(name, []byte("x")), api.ErrDown)
		wantErr(t, d.Append(name, nil), api.ErrDown)
		wantErr(t, d.Sync(name), api.ErrDown)
		wantErr(t, d.Rename(name, -1), api.ErrDown)
		wantErr(t, d.Rename(name, 2), api.ErrDown)
		wantErr(t, d.Rename(name, name), api.ErrDown)
		wantErr(t, d.Remove(name), api.ErrDown)
		if b, err := d.Read(name); len(b) != 0 || err != api.ErrDown {
			t.Errorf("Read(%d) = %q, error %d", name, b, err)
		}
	}
	wantErr(t, d.SyncDir(), api.ErrDown)
	wantNames(t, d, 1)
}

// P11.4: n more calls are done, and then the power is out, whatever the calls are.
func TestCut(t *testing.T) {
	all := []call{appends(1, "x"), appends(1, ""), appends(5, ""), syncs(1), renames(1, 1), renames(2, 6), removes(3), syncsDir()}
	for _, c := range all {
		d := diskOf(t, appends(1, "a"), appends(2, "b"), appends(3, "c"), cuts(1), c) // c is done
		wantOn(t, d, false)
		wantErr(t, d.SyncDir(), api.ErrDown)
	}
	for n := range len(all) + 2 {
		d := diskOf(t, appends(1, "a"), appends(2, "b"), appends(3, "c"), cuts(n))
		for i, c := range all {
			wantOn(t, d, i < n)
			if got := c.of(d); (got == "error 0") != (i < n) {
				t.Errorf("Cut(%d), call %d: %s", n, i, got)
			}
		}
		wantOn(t, d, len(all) < n)
	}
}

// P11.4: the call behind which the power is out is done whole.
func TestTheLastCallAheadOfACut(t *testing.T) {
	ahead := []call{appends(1, "abc"), syncsDir(), cuts(1)}
	d := crashed(t, 0, nil, append(ahead, syncs(1))...)
	wantFile(t, d, 1, "abc")
	d = crashed(t, 1, []int{9, 1}, append(ahead, appends(2, "x"))...)
	wantFile(t, d, 2, "x")
	d = crashed(t, 1, nil, append(ahead, removes(1))...)
	wantNames(t, d)
	d = crashed(t, 1, nil, append(ahead, renames(1, 2))...)
	wantNames(t, d, 2)
	d = crashed(t, 0, nil, append([]call{appends(1, "abc"), cuts(1)}, syncsDir())...)
	wantNames(t, d, 1)
}

// P11.4: below 1, the power is out at once.
func TestCutAtOnce(t *testing.T) {
	for _, n := range []int{math.MinInt, -5, -1, 0} {
		d := diskOf(t, appends(1, "a"), cuts(n))
		wantOn(t, d, false)
		wantErr(t, d.Append(1, nil), api.ErrDown)
		d.Crash(1, nil)
		wantOn(t, d, true)
	}
	d := diskOf(t, cuts(math.MaxInt), appends(1, "a"), syncsDir())
	wantOn(t, d, true)
}

// P11.4: calls that are refused do not count, nor those that change nothing: Read, Names, Used, On.
func TestWhatDoesNotCountForACut(t *testing.T) {
	d := New(5)
	wantOK(t, d.Append(1, []byte("abc")))
	d.Cut(2)
	for range 3 {
		wantErr(t, d.Append(-1, nil), api.ErrArg)
		wantErr(t, d.Append(1, []byte("xyz")), api.ErrNoSpace)
		wantErr(t, d.Sync(2), api.ErrNone)
		wantErr(t, d.Rename(2, 3), api.ErrNone)
		wantErr(t, d.Rename(1, -1), api.ErrArg)
		wantErr(t, d.Remove(2), api.ErrNone)
		wantNone(t, d, 2)
		wantFile(t, d, 1, "abc")
		wantNames(t, d, 1)
		wantUsed(t, d, 3)
		wantOn(t, d, true)
	}
	wantOK(t, d.Sync(1))
	wantOn(t, d, true)
	wantErr(t, d.Remove(2), api.ErrNone)
	wantOK(t, d.Sync(1))
	wantOn(t, d, false)
}

// P11.4: a Cut forgets the one ahead of it.
func TestOneCutBehindAnother(t *testing.T) {
	for _, c := range []struct{ first, done, second, left int }{
		{1, 0, 3, 3}, {3, 0, 1, 1}, {3, 2, 3, 3}, {3, 2, 1, 1}, {5, 4, 2, 2}, {2, 1, 0, 0}, {9, 3, -1, 0}, {math.MaxInt, 3, 2, 2},
	} {
		d := diskOf(t, appends(1, "a"), cuts(c.first))
		for range c.done {
			wantOK(t, d.Sync(1))
		}
		d.Cut(c.second)
		for range c.left {
			wantOn(t, d, true)
			wantOK(t, d.Sync(1))
		}
		wantOn(t, d, false)
		wantErr(t, d.Sync(1), api.ErrDown)
	}
}

// P11.4, P11.5: a Cut does not bring a power that is out; only a Crash does, and it forgets the Cut.
func TestCutWhileThePowerIsOut(t *testing.T) {
	for _, n := range []int{-1, 0, 1, 2, 100} {
		d := diskOf(t, appends(1, "a"), cuts(1), syncsDir(), cuts(n))
		wantOn(t, d, false)
		wantErr(t, d.Sync(1), api.ErrDown)
		d.Crash(0, nil)
		for range 5 {
			wantOn(t, d, true)
			wantOK(t, d.Sync(1))
		}
	}
}

// P11.5: a Crash while the power is on is one, too, and forgets the Cut.
func TestCrashWhileThePowerIsOn(t *testing.T) {
	d := diskOf(t, appends(1, "abc"), syncsDir(), appends(2, "d"), cuts(2))
	d.Crash(0, []int{1})
	wantOn(t, d, true)
	wantNames(t, d, 1)
	wantFile(t, d, 1, "a")
	wantOK(t, d.Sync(1), d.Sync(1), d.SyncDir(), d.Remove(1))
	wantOn(t, d, true)
	d = New(0)
	d.Crash(3, []int{4})
	wantNames(t, d)
	wantOn(t, d, true)
}

// P11.5: of four changes that wait, the first so many.
func TestCrashOfNames(t *testing.T) {
	script := []call{appends(1, "a"), syncsDir(), appends(2, "b"), renames(1, 3), removes(2), renames(3, 2)}
	kept := [][]int{{1}, {1, 2}, {2, 3}, {3}, {2}}
	for names := range 12 {
		wantNames(t, crashed(t, names, nil, script...), kept[names%5]...)
	}
	for names, want := range map[int][]int{-1: {1}, -2: {1}, math.MinInt: {1}, 1000: {1}, 1003: {3}, math.MaxInt: kept[math.MaxInt%5], 1 << 62: kept[(1<<62)%5]} {
		wantNames(t, crashed(t, names, nil, script...), want...)
	}
	for _, names := range []int{math.MinInt, -1, 0, 1, 2, math.MaxInt} {
		wantNames(t, crashed(t, names, nil, appends(1, ""), syncsDir()), 1) // none waits
	}
}

// P11.5: of three bytes that are not kept, behind two that are.
func TestCrashOfBytes(t *testing.T) {
	script := []call{appends(1, "ab"), syncs(1), appends(1, "cde"), syncsDir()}
	kept := []string{"ab", "abc", "abcd", "abcde"}
	for n := range 10 {
		wantFile(t, crashed(t, 0, []int{n}, script...), 1, kept[n%4])
	}
	for n, want := range map[int]string{-1: "ab", -2: "ab", math.MinInt: "ab", 1001: "abc", math.MaxInt: kept[math.MaxInt%4], 1 << 62: "ab"} {
		wantFile(t, crashed(t, 0, []int{n}, script...), 1, want)
	}
	wantFile(t, crashed(t, 0, nil, script...), 1, "ab")
	wantFile(t, crashed(t, 0, []int{}, script...), 1, "ab")
	for _, n := range []int{-1, 0, 1, 7} {
		wantFile(t, crashed(t, 0, []int{n}, append(script, syncs(1))...), 1, "abcde") // all are kept
	}
}

// P11.5: keep goes round, over the files by rising names, of those that are left.
func TestCrashOfSeveralFiles(t *testing.T) {
	script := []call{appends(9, "nine"), appends(2, "two"), appends(5, "five"), appends(7, "seven"), syncsDir()}
	for _, c := range []struct {
		keep []int
		want [4]string // of 2, 5, 7 and 9
	}{
		{nil, [4]string{"", "", "", ""}},
		{[]int{1}, [4]string{"t", "f", "s", "n"}},
		{[]int{1, 2}, [4]string{"t", "fi", "s", "ni"}},
		{[]int{0, 1, 2}, [4]string{"", "f", "se", ""}},
		{[]int{3, -1, 5, 4}, [4]string{"two", "", "seven", "nine"}},
		{[]int{4, 5, 6, 6}, [4]string{"", "", "", "n"}},
		{[]int{1, 1, 1, 1, 3, 3}, [4]string{"t", "f", "s", "n"}},
		{[]int{-3}, [4]string{"", "", "", ""}},
	} {
		d := crashed(t, 0, c.keep, script...)
		for i, name := range []int{2, 5, 7, 9} {
			wantFile(t, d, name, c.want[i])
		}
	}
	d := crashed(t, 2, []int{1, 2}, append(script, removes(2), renames(5, 8), appends(0, "nought"))...)
	wantNames(t, d, 7, 8, 9) // 0 is not there, and none of these is where it was
	wantFile(t, d, 7, "s")
	wantFile(t, d, 8, "fi")
	wantFile(t, d, 9, "n")
}

// P11.5: what a Crash leaves is kept, and no change waits: another one leaves it, whatever it asks for.
func TestACrashBehindACrash(t *testing.T) {
	for names := range 3 {
		d := crashed(t, 1, []int{2, 1}, appends(1, "abc"), syncsDir(), renames(1, 2), appends(3, "d"))
		wantNames(t, d, 2)
		wantFile(t, d, 2, "ab")
		d.Crash(names, []int{-1, 1, 5}[names:])
		wantNames(t, d, 2)
		wantFile(t, d, 2, "ab")
		wantUsed(t, d, 2)
		wantOK(t, d.Append(2, []byte("x")), d.Append(4, nil))
		wantFile(t, d, 2, "abx")
		d.Crash(0, nil)
		wantNames(t, d, 2)
		wantFile(t, d, 2, "ab")
	}
}

// P11.5: bytes that a Crash took do not come again, whatever is put behind those that are left.
func TestLostBytesAreGone(t *testing.T) {
	d := crashed(t, 0, []int{1}, appends(1, "abcdef"), syncsDir())
	wantOK(t, d.Append(1, []byte("x")))
	wantFile(t, d, 1, "ax")
	d.Crash(0, []int{1})
	wantFile(t, d, 1, "ax")
	d.Crash(0, []int{5})
	wantFile(t, d, 1, "ax")
}

// P11.3, P11.5, P11.6: one file is written anew under another name, synced, and renamed in the place of the elder one: whatever is lost, one of the two is there, whole.
func TestAFileInThePlaceOfAnother(t *testing.T) {
	ahead := []call{appends(3, "elder"), syncs(3), syncsDir()}
	steps := []call{appends(1, "new"), appends(1, "er"), syncs(1), renames(1, 3), syncsDir()}
	seen := map[string]int{}
	for done := range len(steps) + 1 {
		for names := range 4 {
			for _, keep := range [][]int{nil, {1}, {2, 7}, {100, 100}} {
				d := crashed(t, names, keep, slices.Concat(ahead, []call{cuts(done)}, steps[:done])...)
				b, err := d.Read(3)
				seen[string(b)]++
				if err != api.OK || string(b) != "elder" && string(b) != "newer" || done < 4 && string(b) != "elder" || done == 5 && string(b) != "newer" {
					t.Errorf("%d steps, Crash(%d, %v): %q, error %d", done, names, keep, b, err)
				}
			}
		}
	}
	if len(seen) != 2 {
		t.Error(seen)
	}
}

// P11.6: what was kept of a file whose name was kept is there behind a Crash, if its name is.
func TestWhatWasKeptIsThere(t *testing.T) {
	chance := rand.New(rand.NewPCG(11, 6)) // the same numbers in every run
	for range 3000 {
		d, p := New(1000), newPlain(1000)
		for range chance.IntN(30) {
			c := chanceCall(chance)
			c.of(d)
			c.of(p)
		}
		kept := map[int]string{} // of each name in the kept directory
		for name, id := range p.directories[0] {
			kept[name] = p.text[id][:p.kept[id]]
		}
		isLeft := map[int]bool{} // a name that no change that waits has touched
		for name := range kept {
			isLeft[name] = !slices.ContainsFunc(p.directories, func(dir map[int]int) bool {
				id, there := dir[name]
				return !there || id != p.directories[0][name]
			})
		}
		names, keep := chanceNumber(chance), chanceNumbers(chance)
		d.Crash(names, keep)
		for name, want := range kept {
			b, err := d.Read(name)
			if isBegun := err == api.OK && len(b) >= len(want) && string(b[:len(want)]) == want; isLeft[name] && !isBegun {
				t.Fatalf("Crash(%d, %v): Read(%d) = %q, error %d, want %q and perhaps more", names, keep, name, b, err, want)
			}
		}
	}
}

// P11.1 to P11.5: all short scripts, and each Crash behind them.
func TestAllShortScripts(t *testing.T) {
	calls := []call{
		appends(1, "ab"), appends(2, "cde"), appends(0, ""), syncs(1), renames(1, 2), renames(2, 1), renames(1, 1), removes(1), removes(2), syncsDir(), cuts(2), crashes(1, 1),
	}
	for _, a := range calls {
		wantCrashesAsTold(t, 7, a)
		for _, b := range calls {
			wantCrashesAsTold(t, 7, a, b)
			for _, c := range calls {
				wantCrashesAsTold(t, 7, a, b, c)
				wantCrashesAsTold(t, 7, appends(1, "xy"), appends(2, "z"), syncs(1), syncsDir(), a, b, c)
			}
		}
	}
}

// P11.1 to P11.5: long scripts by chance, with little room and with much.
func TestScriptsByChance(t *testing.T) {
	chance := rand.New(rand.NewPCG(11, 11)) // the same numbers in every run
	for i := range 1500 {
		var script []call
		for range 20 + chance.IntN(60) {
			script = append(script, chanceCall(chance))
		}
		wantAsTold(t, []int{-1, 0, 3, 10, 30, 1 << 30}[i%6], script...)
	}
}

// R1, P1: any numbers, in any order.
func TestAnyArguments(t *testing.T) {
	numbers := []int{math.MinInt, math.MinInt + 1, -noName, -1, 0, 1, topName, noName, math.MaxInt - 1, math.MaxInt}
	for _, room := range numbers {
		var script []call
		for _, a := range numbers {
			script = append(script, appends(a, "ab"), reads(a), syncs(a), removes(a), appends(a, ""), syncsDir(), appends(a, "c"))
			for _, b := range numbers {
				script = append(script, renames(a, b), cuts(a), appends(1, "x"), crashes(a, b), crashes(b, a, b, a), appends(0, "yz"))
			}
		}
		wantAsTold(t, room, script...)
	}
}

// R3: what is handed in stays as it was.
func TestWhatIsHandedInStays(t *testing.T) {
	d := New(100)
	b, keep := append(make([]byte, 0, 10), "abc"...), append(make([]int, 0, 10), 5, -1, 2)
	wantOK(t, d.Append(1, b), d.Append(1, b), d.Append(2, b), d.SyncDir())
	d.Crash(0, keep)
	if string(b) != "abc" || string(b[:10]) != "abc\x00\x00\x00\x00\x00\x00\x00" {
		t.Errorf("%q", b[:10])
	}
	if !slices.Equal(keep[:10], []int{5, -1, 2, 0, 0, 0, 0, 0, 0, 0}) {
		t.Error(keep[:10])
	}
}

// R3: later changes to what was handed in, or answered, change nothing of the disk, nor of another answer.
func TestWhatIsAnsweredIsTheCallersOwn(t *testing.T) {
	d := New(100)
	b := []byte("abc")
	wantOK(t, d.Append(1, b), d.Append(2, nil), d.Append(3, []byte("z")))
	b[0] = 'x'
	wantFile(t, d, 1, "abc")
	first, _ := d.Read(1)
	second, _ := d.Read(1)
	first[1] = 'y'
	_ = append(first[:1], "qqqq"...)
	if string(second) != "abc" {
		t.Errorf("%q", second)
	}
	wantFile(t, d, 1, "abc")
	empty, _ := d.Read(2)
	_ = append(empty, "q"...)
	wantOK(t, d.Append(1, []byte("def")), d.Append(2, []byte("g")))
	wantFile(t, d, 2, "g")
	_ = append(second, "rrr"...)
	wantFile(t, d, 1, "abcdef")
	if string(second) != "abc" {
		t.Errorf("%q", second)
	}
	names := d.Names()
	names[0], names[1] = 50, 40
	wantNames(t, d, 1, 2, 3)
	third, _ := d.Read(1)
	wantOK(t, d.SyncDir())
	d.Crash(0, []int{2})
	wantOK(t, d.Append(1, []byte("XYZ")))
	if string(third) != "abcdef" {
		t.Errorf("%q", third)
	}
}

// R5: the same calls answer the same, whatever order a map is gone through in.
func TestTheSameCallsAnswerTheSame(t *testing.T) {
	var script []call
	for i := range 200 {
		script = append(script, appends(i*7919%1000, fmt.Sprint(i*i)))
	}
	script = append(script, syncsDir(), crashes(0, 1, 2, 3, 0, 5, 1, 1))
	want := ""
	for range 20 {
		d := diskOf(t, script...)
		got := look(d, d.Names())
		if want == "" {
			want = got
		}
		if got != want {
			t.Fatal(got, want)
		}
	}
}

// P11.1, P11.2: as many names as may be, in a time that grows with them alone.
func TestAllNames(t *testing.T) {
	d := New(noName)
	for name := range noName {
		if err := d.Append(topName-name, []byte{byte(name)}); err != api.OK {
			t.Fatal(name, err)
		}
	}
	wantErr(t, d.Append(5, []byte{1}), api.ErrNoSpace)
	wantUsed(t, d, noName)
	wantOK(t, d.Sync(7), d.SyncDir())
	d.Crash(0, nil)
	wantUsed(t, d, 1)
	wantFile(t, d, 7, string([]byte{byte((topName - 7) % 256)}))
	if l := d.Names(); len(l) != noName || !slices.IsSorted(l) || l[0] != 0 || l[topName] != topName {
		t.Error(len(l))
	}
}
