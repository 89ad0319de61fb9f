package wmo

import (
	"corral/api"
	"corral/ppo"
)

// start is ahead of all in order, where memory has what it had first: places in order are counted from 1 here, so that what no list or map was told of is at the start.
const start = 0

// fault is an error around a place in order, as the caller counts it.
func fault(err error, p int) error { return &api.At{Pos: p - 1, Err: err} }

// find is the operation on memory that r names; nil: none.
func find(harts [][]api.Op, r Ref) *api.Op {
	if r.Hart < 0 || r.Hart >= len(harts) || r.At < 0 || r.At >= len(harts[r.Hart]) {
		return nil
	}
	if o := &harts[r.Hart][r.At]; o.Kind != api.Barrier {
		return o
	}
	return nil
}

// lay is the place in order of each operation (of a Barrier: start), and the first place where order is wrong: its Ref is none, or it ends too early; start: nowhere.
func lay(harts [][]api.Op, order []Ref) ([][]int, int) {
	places, missing := make([][]int, len(harts)), 0
	for h, l := range harts {
		places[h] = make([]int, len(l))
		missing += accesses(l)
	}
	for n, r := range order {
		if find(harts, r) == nil || places[r.Hart][r.At] != start {
			return nil, n + 1
		}
		places[r.Hart][r.At] = n + 1
		missing--
	}
	if missing > 0 {
		return nil, len(order) + 1
	}
	return places, start
}

// accesses is how many are no Barriers.
func accesses(l []api.Op) int {
	n := 0
	for i := range l {
		if l[i].Kind != api.Barrier {
			n++
		}
	}
	return n
}

// turned is the first place in order of one that comes behind one that has to stay behind it; start: none.
func turned(harts [][]api.Op, places [][]int) int {
	first := start
	for h, l := range harts {
		if p := turnedIn(l, places[h]); p > start && (first == start || p < first) {
			first = p
		}
	}
	return first
}

// turnedIn is that of one hart.
func turnedIn(l []api.Op, places []int) int {
	// What has to stay in order is asked for only where something does not: of a long list it is much.
	if inTurn(places) {
		return start
	}
	first := start
	for a, behind := range ppo.Of(l) {
		if (first == start || places[a] < first) && anyAhead(behind, places, places[a]) {
			first = places[a]
		}
	}
	return first
}

// inTurn tells whether a hart's operations lie in order as they do in its list.
func inTurn(places []int) bool {
	last := start
	for _, p := range places {
		if p != start && p < last {
			return false
		}
		last = max(last, p)
	}
	return true
}

// anyAhead tells whether one of these operations lies ahead of that place in order.
func anyAhead(ops, places []int, p int) bool {
	for _, b := range ops {
		if places[b] < p {
			return true
		}
	}
	return false
}
