package segment

import (
	"ferryman/api"
	"ferryman/frame"
	"ferryman/num"
)

// The places of a heading's numbers.
const (
	atVersion = iota
	atKind
	atFirst
	headingNumbers
)

// heading is the numbers of a head, in the order in which it tells them.
type heading [headingNumbers]int

// fault is why there may be no such head.
func (h heading) fault() api.Errno {
	switch {
	case !isVersion(h[atVersion]):
		return api.ErrVersion
	case h[atKind] < 0 || h[atKind] >= api.Kinds:
		return api.ErrArg
	case h[atFirst] < 0 || h[atFirst] >= api.MaxNum:
		return api.ErrArg
	}
	return api.OK
}

// data is what the head's frame holds.
func (h heading) data() []byte {
	out := []byte{api.Magic}
	for _, n := range h {
		out = num.Put(out, n)
	}
	return out
}

func (h heading) segment(l []api.Record) api.Segment {
	return api.Segment{Kind: h[atKind], First: h[atFirst], Records: l}
}

// readHead is the heading that data tell.
func readHead(data []byte) (heading, api.Errno) {
	if len(data) == 0 || data[0] != api.Magic {
		return heading{}, api.ErrForm
	}
	var h heading
	left := data[1:]
	for i := range h {
		n, taken := num.Get(left)
		if taken == 0 {
			return heading{}, api.ErrForm
		}
		h[i], left = n, left[taken:]
	}
	if len(left) > 0 {
		return heading{}, api.ErrForm
	}
	return h, h.fault()
}

// footer is the data of the footer behind a head and blocks, whose data these are.
func footer(parts [][]byte) []byte {
	blockCount := len(parts) - 1
	out := num.Put(nil, blockCount)
	// A frame begins as much behind the one ahead as that one takes; behind the last block none begins.
	for _, data := range parts[:blockCount] {
		out = append(out, num.Put(nil, frame.Size(len(data)))...)
	}
	return out
}

// frames are the frames of data, one behind the other: none has as many as a frame can't hold.
func frames(parts [][]byte) []byte {
	out := make([]byte, 0, size(parts))
	for _, data := range parts {
		one, _ := frame.Encode(data)
		out = append(out, one...)
	}
	return out
}

// size is how many bytes the frames of data take.
func size(parts [][]byte) int {
	sum := 0
	for _, data := range parts {
		sum += frame.Size(len(data))
	}
	return sum
}

func isVersion(version int) bool { return version >= 1 && version <= api.Version }
