package snapshot

import (
	"bytes"
	"slices"

	"ferryman/api"
	"ferryman/crc"
	"ferryman/num"
)

const sumBytes = 4

// manifest is what a snapshot's first frame tells, but for the version.
type manifest struct {
	index  int
	length int // of the whole
	sum    uint32
}

func manifestOf(index int, whole []byte) manifest {
	return manifest{index: index, length: len(whole), sum: crc.Sum(whole)}
}

// data is what the manifest's frame holds.
func (m manifest) data() []byte {
	return slices.Concat([]byte{api.MagicSnap}, num.Put(nil, api.Version), num.Put(nil, m.index), num.Put(nil, m.length), num.Fixed32(m.sum))
}

// readManifest is the manifest that data tell.
func readManifest(data []byte) (manifest, api.Errno) {
	if len(data) == 0 || data[0] != api.MagicSnap {
		return manifest{}, api.ErrForm
	}
	var m manifest
	var version int
	left, there := getNumbers(data[1:], &version, &m.index, &m.length)
	switch {
	case !there:
		return manifest{}, api.ErrForm
	case version != api.Version:
		return manifest{}, api.ErrVersion
	case len(left) != sumBytes:
		return manifest{}, api.ErrForm
	}
	m.sum = uint32(num.Fixed(left))
	return m, api.OK
}

// join is the whole that the manifest tells of, out of what should be its chunks.
func (m manifest) join(parts [][]byte) ([]byte, api.Errno) {
	whole := slices.Concat(parts...)
	switch {
	case len(whole) != m.length:
		return nil, api.ErrEnd
	case !slices.EqualFunc(parts, chunks(whole), bytes.Equal):
		return nil, api.ErrForm
	case crc.Sum(whole) != m.sum:
		return nil, api.ErrSum
	}
	return whole, api.OK
}

// chunks are the pieces that a whole is cut into.
func chunks(whole []byte) [][]byte {
	var out [][]byte
	for at := 0; at < len(whole); at += api.Chunk {
		end := min(at+api.Chunk, len(whole))
		out = append(out, whole[at:end:end])
	}
	return out
}
