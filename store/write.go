package store

import (
	"slices"

	"ferryman/api"
	"ferryman/block"
	"ferryman/frame"
	"ferryman/segment"
)

// headFrame is that of a segment that begins with Next.
func (s *Store) headFrame() []byte {
	b, _ := segment.Head(api.Version, s.now.State.Kind, s.Next()) // where a record fits, a head does
	return b
}

// blockFrame is the frame of records that fit in one block, which are far from as many as a frame can't hold.
func blockFrame(l []api.Record) []byte {
	data, _ := block.Encode(l)
	b, _ := frame.Encode(data)
	return b
}

// nextName is the one behind the greatest name on the disk of the sort that begins with first.
func (s *Store) nextName(first int) int {
	return last(namesFrom(s.disk, first), first-2) + 2
}

// clearAway removes what is there of a checkpoint that did not come to its end.
func (s *Store) clearAway() api.Errno {
	if !slices.Contains(s.disk.Names(), beingMade) {
		return api.OK
	}
	return s.disk.Remove(beingMade)
}

// keepName keeps the name of the Current segment, unless it is kept.
func (s *Store) keepName() api.Errno {
	if !s.nameWaits {
		return api.OK
	}
	return s.syncDir()
}

// syncDir keeps all names, and so that of the Current segment, whatever it is called for.
func (s *Store) syncDir() api.Errno {
	err := s.disk.SyncDir()
	if err == api.OK {
		s.nameWaits = false
	}
	return err
}

// step is one of several that are done one behind the other.
type step func() api.Errno

// stepByStep does steps up to the first error, which is the answer.
func stepByStep(steps ...step) api.Errno {
	for _, do := range steps {
		if err := do(); err != api.OK {
			return err
		}
	}
	return api.OK
}

// last is the last one of some; none, if there is none.
func last[T any](some []T, none T) T {
	if len(some) == 0 {
		return none
	}
	return some[len(some)-1]
}
