package delta

import (
	"slices"

	"ferryman/api"
	"ferryman/snapshot"
)

// mostEntries is how many a table may have: one of each process.
const mostEntries = api.MaxProcs + 1

// alikeAhead is how many numbers both lists begin with, alikeBehind how many both end with.
func alikeAhead(a, b []int) int {
	return run(min(len(a), len(b)), func(i int) bool { return a[i] == b[i] })
}

func alikeBehind(a, b []int) int {
	return run(min(len(a), len(b)), func(i int) bool { return a[len(a)-1-i] == b[len(b)-1-i] })
}

// run is how many of the first so many places are alike, one behind the other.
func run(places int, isAlike func(i int) bool) int {
	for i := range places {
		if !isAlike(i) {
			return i
		}
	}
	return places
}

// hasProcs: each process of old has an entry in now too.
func hasProcs(now, old []api.Entry) bool {
	isGone := func(e api.Entry) bool {
		isSame := func(other api.Entry) bool { return other.Proc == e.Proc }
		return !slices.ContainsFunc(now, isSame)
	}
	return !slices.ContainsFunc(old, isGone)
}

// newEntries are those of now that old has not, just so.
func newEntries(old, now []api.Entry) []api.Entry {
	var out []api.Entry
	for _, e := range now {
		isSame := func(other api.Entry) bool { return other == e }
		if !slices.ContainsFunc(old, isSame) {
			out = append(out, e)
		}
	}
	return out
}

// isCut: so many numbers can be cut into d's Ahead, what Mid stands for, and d's Behind. Ahead and Behind are not added, as their sum may go round.
func isCut(d api.Delta, numbers int) bool {
	return d.Ahead >= 0 && d.Behind >= 0 && d.Ahead <= numbers && d.Behind <= numbers-d.Ahead
}

// changeState is a state behind a delta by which its numbers can be cut.
func changeState(s api.State, d api.Delta) api.State {
	behind := s.L[len(s.L)-d.Behind:]
	return api.State{Kind: s.Kind, L: slices.Concat(s.L[:d.Ahead], d.Mid, behind), Sealed: d.Sealed, To: d.Engine}
}

// noteAll is a table behind new entries, one behind the other.
func noteAll(t, news []api.Entry) []api.Entry {
	out := slices.Clone(t)
	for _, e := range news {
		// A table never gets shorter: one that is too long stays so, and need not grow with what is told.
		if len(out) > mostEntries {
			return out
		}
		out = snapshot.Note(out, api.Record{Proc: e.Proc, Seq: e.Seq, Resp: e.Resp})
	}
	return out
}
