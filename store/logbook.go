package store

import (
	"slices"

	"ferryman/api"
	"ferryman/snapshot"
)

// piece is a segment of the Log: its name, its first index, and the one behind its records.
type piece struct{ name, first, end int }

// logbook is the Log, and the segments that it stands in, which follow one another by rising names.
type logbook struct {
	first   int
	records []api.Record
	pieces  []piece
}

func (b *logbook) next() int { return b.first + len(b.records) }

// begin puts another segment behind the others, without records so far.
func (b *logbook) begin(name, first int) {
	if len(b.pieces) == 0 {
		b.first = first
	}
	b.pieces = append(b.pieces, piece{name: name, first: first, end: first})
}

// add puts records behind the others, into the last segment.
func (b *logbook) add(l []api.Record) {
	b.records = append(b.records, l...)
	b.pieces[len(b.pieces)-1].end += len(l)
}

// letGo leaves the segments that are left, and their records; base is where the Log goes on, if there are none.
func (b *logbook) letGo(left []piece, base int) {
	first := base
	if len(left) > 0 {
		first = left[0].first
	}
	// The clone lets go the memory of the others, too.
	b.records = slices.Clone(b.records[first-b.first:])
	b.first, b.pieces = first, left
}

// behind is the Log, and what it makes of base. A Log that does not lead there is worth nothing: base is all that is known then.
func (b logbook) behind(base api.Snapshot) (logbook, api.Snapshot) {
	if len(b.pieces) > 0 && b.first <= base.Index && base.Index <= b.next() {
		now, err := snapshot.Take(base, b.records[base.Index-b.first:])
		if err == api.OK {
			return b, now
		}
	}
	return logbook{first: base.Index}, base
}
