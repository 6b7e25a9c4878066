package segment

import (
	"bytes"

	"ferryman/api"
	"ferryman/block"
	"ferryman/num"
	"ferryman/schema"
)

// goOn tells whether records may stand in one segment, one behind the other, wherever they begin.
func goOn(l []api.Record) bool {
	if len(l) > mostRecords {
		return false
	}
	for i, r := range l {
		if !schema.Fits(r) || r.Index != l[0].Index+i {
			return false
		}
	}
	return true
}

// blocks are records that go on, as the data of blocks.
func blocks(version int, l []api.Record) [][]byte {
	var out [][]byte
	for at := 0; at < len(l); at += api.Every {
		end := min(at+api.Every, len(l))
		out = append(out, blockData(version, l[at:end:end]))
	}
	return out
}

// blockData is the data of one block, of records that go on.
func blockData(version int, l []api.Record) []byte {
	if version == api.Version {
		out, _ := block.Encode(l)
		return out
	}
	var out []byte
	for _, r := range l {
		one, _ := schema.Encode(version, r)
		out = append(out, num.Put(nil, len(one))...)
		out = append(out, one...)
	}
	return out
}

// readBlocks is the records of the blocks that parts begin with, upgraded, how many blocks these are, and why the next one is none: OK, if there is no more.
func readBlocks(h heading, parts [][]byte) ([]api.Record, int, api.Errno) {
	var l []api.Record
	for i, data := range parts {
		got := readBlock(h[atVersion], data)
		aheadIsWhole := len(l)%api.Every == 0
		if len(got) == 0 || got[0].Index != h[atFirst]+len(l) || !aheadIsWhole {
			return l, i, api.ErrForm
		}
		if len(l)+len(got) > mostRecords {
			return l, i, api.ErrTooLarge
		}
		l = append(l, got...)
	}
	return l, len(parts), api.OK
}

// readBlock is the records of a block, upgraded; none, if data are none that a segment of that version has.
func readBlock(version int, data []byte) []api.Record {
	var l []api.Record
	if version == api.Version {
		l, _ = block.Decode(data)
	} else {
		l = readRecords(data)
	}
	if len(l) > api.Every || !goOn(l) {
		return nil
	}
	// What schema reads may be of another version, or have more fields than that one writes: such data are no block of it.
	if !bytes.Equal(data, blockData(version, l)) {
		return nil
	}
	return l
}

// readRecords is the records that data are, each behind its length; none, if one of them is none. It reads one more than a block may have at most, which tells as much as all of them.
func readRecords(data []byte) []api.Record {
	var l []api.Record
	for len(data) > 0 && len(l) <= api.Every {
		length, taken := num.Get(data)
		if taken == 0 || length > len(data)-taken {
			return nil
		}
		end := taken + length
		r, err := schema.Decode(data[taken:end:end])
		if err != api.OK {
			return nil
		}
		l, data = append(l, r), data[end:]
	}
	return l
}
