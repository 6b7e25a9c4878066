package snapshot

import (
	"slices"

	"ferryman/api"
	"ferryman/codec"
	"ferryman/num"
)

// wholeOf is the state and the table of a snapshot that may be, as bytes.
func wholeOf(s api.Snapshot) []byte {
	state, _ := codec.EncodeState(s.State)
	out := slices.Concat(num.Put(nil, len(state)), state, num.Put(nil, len(s.Table)))
	for _, e := range s.Table {
		out = num.Put(num.Put(out, e.Proc), e.Seq)
		out = num.PutSigned(out, e.Resp)
	}
	return out
}

// readWhole is the state and the table whose whole these bytes are, also such as may not be; false: there are none. A state that may not be comes as the zero State, which may not be either.
func readWhole(whole []byte) (api.State, []api.Entry, bool) {
	var length int
	left, there := getNumbers(whole, &length)
	if !there || length > len(left) {
		return api.State{}, nil, false
	}
	state, err := codec.DecodeState(left[:length:length])
	if err == api.ErrForm {
		return api.State{}, nil, false
	}
	table, isTable := readTable(left[length:])
	return state, table, isTable
}

// readTable is the entries that b tells, whatever their numbers, if nothing stands behind them.
func readTable(b []byte) ([]api.Entry, bool) {
	var table []api.Entry
	var count int
	left, there := getNumbers(b, &count)
	// The table grows with the bytes that are there, so that a count alone takes neither memory nor time.
	for there && len(table) < count {
		var e api.Entry
		e, left, there = getEntry(left)
		table = append(table, e)
	}
	return table, there && len(left) == 0
}

// getEntry is the entry that b begins with, what is left of b, and whether it is there.
func getEntry(b []byte) (api.Entry, []byte, bool) {
	var e api.Entry
	left, _ := getNumbers(b, &e.Proc, &e.Seq)
	resp, taken := num.GetSigned(left)
	e.Resp = resp
	return e, left[taken:], taken > 0
}

// getNumbers reads the numbers that b begins with into places, and is what is left of b, and whether all are there: nothing is left behind what is no number, so that none is found there.
func getNumbers(b []byte, places ...*int) ([]byte, bool) {
	for _, place := range places {
		n, taken := num.Get(b)
		if taken == 0 {
			return nil, false
		}
		*place, b = n, b[taken:]
	}
	return b, true
}
