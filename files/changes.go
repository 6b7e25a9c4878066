package files

import (
	"maps"

	"ferryman/api"
)

// file is bytes, of which the first so many are kept. It is the same one under whatever name a directory has it.
type file struct {
	bytes []byte
	kept  int
}

// directory is which file each name has.
type directory map[int]*file

// change is one that waits. It is made in the directory as it is now at once, and in the kept one when it is kept.
type change func(dir directory)

func give(name int, f *file) change {
	return func(dir directory) { dir[name] = f }
}

func move(name, to int, f *file) change {
	return func(dir directory) {
		dir[to] = f
		delete(dir, name)
	}
}

func take(name int) change {
	return func(dir directory) { delete(dir, name) }
}

// mayBe: a file may have that name.
func mayBe(name int) bool { return name >= 0 && name < api.MaxName }

// find is the file that a name has; an error, if the power is out, or there is none.
func (d *Disk) find(name int) (*file, api.Errno) {
	if !d.On() {
		return nil, api.ErrDown
	}
	f, there := d.now[name]
	if !there {
		return nil, api.ErrNone
	}
	return f, api.OK
}

// free counts the bytes of a name's file, if it has one, as used no more.
func (d *Disk) free(name int) {
	if f, there := d.now[name]; there {
		d.used -= len(f.bytes)
	}
}

func (d *Disk) apply(c change) {
	c(d.now)
	d.waiting = append(d.waiting, c)
}

// loseChanges keeps the first so many of the changes that wait, and forgets the others.
func (d *Disk) loseChanges(names int) {
	for _, keep := range d.waiting[:share(names, len(d.waiting))] {
		keep(d.kept)
	}
	d.waiting = nil
	clear(d.now)
	maps.Copy(d.now, d.kept)
}

// loseBytes keeps so many of the bytes that each file has behind its kept ones.
func (d *Disk) loseBytes(keep []int) {
	d.used = 0
	for i, name := range d.Names() {
		f, more := d.now[name], 0
		if len(keep) > 0 {
			more = keep[i%len(keep)]
		}
		f.kept += share(more, len(f.bytes)-f.kept)
		f.bytes = f.bytes[:f.kept]
		d.used += f.kept
	}
}

// share is how many of all are kept, of which any number may be asked for.
func share(asked, all int) int {
	if asked < 0 {
		return 0
	}
	return asked % (all + 1)
}
