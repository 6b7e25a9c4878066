package store

import (
	"bytes"
	"slices"

	"ferryman/api"
	"ferryman/block"
	"ferryman/files"
	"ferryman/frame"
	"ferryman/objs"
	"ferryman/segment"
	"ferryman/snapshot"
)

// The names on a disk: every second one from its first on is a segment, or a checkpoint.
const (
	noSegment       = 0 // no segment has that name
	beingMade       = 1
	firstSegment    = 2
	firstCheckpoint = 3
)

// namesFrom are the names on a disk of the sort that begins with first, rising.
func namesFrom(d *files.Disk, first int) []int {
	isOther := func(name int) bool { return name < first || (name-first)%2 != 0 }
	return slices.DeleteFunc(d.Names(), isOther)
}

// readBases are the states that a disk has of a kind, behind the one that needs no disk.
func readBases(d *files.Disk, kind int) []api.Snapshot {
	bases := []api.Snapshot{{State: objs.Start(kind)}}
	for _, name := range namesFrom(d, firstCheckpoint) {
		b, _ := d.Read(name)
		if s, err := snapshot.Decode(b); err == api.OK && s.State.Kind == kind {
			bases = append(bases, s)
		}
	}
	return bases
}

// readLog is the Log that a disk has of a kind.
func readLog(d *files.Disk, kind int) logbook {
	var log logbook
	for _, name := range namesFrom(d, firstSegment) {
		b, _ := d.Read(name)
		first, l, isRight := readSegment(b, kind)
		if isRight && (len(log.pieces) == 0 || first == log.next()) {
			log.begin(name, first)
			log.add(l)
		}
	}
	return log
}

// readSegment is the first index of a segment, and what it has; false, if it has no right head.
func readSegment(b []byte, kind int) (int, []api.Record, bool) {
	parts, _ := frame.Whole(b)
	if len(parts) == 0 {
		return 0, nil, false
	}
	first, isRight := readHead(parts[0], kind)
	if !isRight {
		return 0, nil, false
	}
	var l []api.Record
blocks:
	for _, data := range parts[1:] {
		got, err := block.Decode(data)
		switch {
		case err != api.OK:
			break blocks
		case got[0].Index != first+len(l):
			break blocks
		default:
			l = append(l, got...)
		}
	}
	return first, l, true
}

// readHead is the first index that a head tells; false, if data are no head of that kind and of the newest version.
func readHead(data []byte, kind int) (int, bool) {
	b, _ := frame.Encode(data) // they were the data of one
	head, _, _ := segment.Recover(b)
	// Recover does not tell a head's version, but each version writes a head in one way alone.
	newest, _ := segment.Head(api.Version, kind, head.First)
	return head.First, bytes.Equal(b, newest)
}
