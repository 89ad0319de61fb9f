package wmo

import (
	"corral/api"
	"corral/ppo"
)

const (
	maxHarts = 64
	maxOps   = 20000 // of all harts together
)

func many(harts [][]api.Op) bool {
	if len(harts) > maxHarts {
		return true
	}
	n := 0
	for _, l := range harts {
		n += len(l)
	}
	return n > maxOps
}

// misshapen is the place of the first operation that is none; len(l): all are.
func misshapen(l []api.Op) int {
	pairs := ppo.Pairs(l)
	for n := range l {
		o := &l[n]
		if !bytesFit(o) || !depsFit(o, n) || o.Paired && !pairFits(l, n, pairs[n]) {
			return n
		}
	}
	return len(l)
}

func bytesFit(o *api.Op) bool {
	switch o.Kind {
	case api.Read, api.Write:
		return (o.Size == 1 || o.Size == 2 || o.Size == 4) && o.Addr%uint32(o.Size) == 0
	case api.Both:
		return o.Size == 4 && o.Addr%4 == 0
	case api.Barrier:
		return o.Size == 0
	}
	return false
}

// depsFit tells whether all that the n-th operation hangs on lies ahead of it.
func depsFit(o *api.Op, n int) bool {
	return allBelow(o.AddrDeps, n) && allBelow(o.DataDeps, n) && allBelow(o.Ctrl, n)
}

func allBelow(places []int, n int) bool {
	for _, p := range places {
		if p < 0 || p >= n {
			return false
		}
	}
	return true
}

// pairFits tells whether the n-th operation, that is Paired, may be; lr is the place of the Lr that it is paired with, below 0: none.
func pairFits(l []api.Op, n, lr int) bool {
	switch l[n].Kind {
	case api.Read:
		return l[n].Size == 4
	case api.Write:
		return l[n].Size == 4 && lr >= 0 && l[lr].Addr == l[n].Addr
	}
	return false
}

func reads(o *api.Op) bool  { return o.Kind == api.Read || o.Kind == api.Both }
func writes(o *api.Op) bool { return o.Kind == api.Write || o.Kind == api.Both }

// touches tells whether one of the operation's bytes, of which there may be any number, lies at addr. Addresses wrap.
func touches(o *api.Op, addr uint32) bool {
	return o.Size > 0 && uint64(addr-o.Addr) < uint64(o.Size)
}

// byteAt is what the operation writes at addr: the lowest byte of Value lies at Addr, and behind the highest there is 0.
func byteAt(o *api.Op, addr uint32) byte {
	return byte(o.Value >> (8 * uint64(addr-o.Addr)))
}
