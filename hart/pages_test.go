package hart_test

import (
	"testing"

	"corral/alu"
	"corral/api"
	"corral/hart"
	"corral/pte"
)

const v, r, w, x, u, g, a, d = pte.V, pte.R, pte.W, pte.X, pte.U, pte.G, pte.A, pte.D

// root is Satp of a table of level 1 at 0x1000.
const root = 0x80000001

// table leads from there to the table of level 0 at 0x2000, for the lowest addresses.
func table() api.Pte { return api.Pte{Addr: 0x1000, Value: pte.Make(2, v)} }

// leafX and leafRW are entries of pages of User: code, and data, as an access leaves them.
func leafX(page uint32) uint32  { return pte.Make(page, v, x, u, a) }
func leafRW(page uint32) uint32 { return pte.Make(page, v, r, w, u, a, d) }

// low is the entry of level 0 for a page of the lowest addresses.
func low(page, value uint32) api.Pte { return api.Pte{Addr: 0x2000 + 4*page, Value: value} }

// paged is a hart at 0x3000 with pages on; x1 0x4000, x2 0xFFFF9876.
func paged(t *testing.T, mode int) *hart.Hart {
	t.Helper()
	return start{bytes: room, mode: mode, pc: 0x3000, satp: root, x: map[int]uint32{1: 0x4000, 2: 0xFFFF9876, 3: 0x33}}.make(t)
}

// fetched is an event of a word of page 7, that is at 0x3000.
func fetched(word uint32) api.Event {
	return api.Event{Kind: api.Retired, PC: 0x3000, Word: word, FPA: 0x7000, FWalk: []api.Pte{table(), low(3, leafX(7))}}
}

// faulted is the event, but a trap.
func faulted(e api.Event, cause, tval uint32) api.Event {
	e.Kind, e.Cause, e.Tval = api.Trapped, cause, tval
	return e
}

func TestPagesOfMachine(t *testing.T) { // P10.3: there are none
	h := paged(t, api.Machine)
	refuses(t, h, fetched(0x13))
	e := retired(h, 0x13)
	e.FWalk = []api.Pte{table()}
	refuses(t, h, e)
	does(t, h, retired(h, 0x13), none, free{}, 0, 0)
	e = retired(h, code(t, "lw x3, 0(x1)"))
	e.PA = 0x4000
	does(t, h, e, hart.Effect{Kind: api.Read, Addr: 0x4000, Size: 4}, free{load: ones}, 3, 0)
}

func TestPagesOff(t *testing.T) { // P10.3: bit 31 of Satp
	h := start{bytes: room, mode: api.User, pc: 0x3000, satp: root &^ (1 << 31)}.make(t)
	refuses(t, h, fetched(0x13))
	does(t, h, retired(h, 0x13), none, free{}, 0, 0)
}

func TestFetchPages(t *testing.T) { // P10.3
	h := paged(t, api.User)
	refuses(t, h, retired(h, 0x13))
	does(t, h, fetched(0x13), none, free{}, 0, 0)
	// A great page, and one that nothing is asked of but X: the last words of it.
	h = start{bytes: room, mode: api.User, pc: 0xFFFFFFFC, satp: root}.make(t)
	last := api.Event{Kind: api.Retired, PC: 0xFFFFFFFC, Word: 0x13, FPA: 0x8FFC, FWalk: []api.Pte{{Addr: 0x1FFC, Value: pte.Make(2, v, g)}, {Addr: 0x2FFC, Value: leafX(8) | g | 0x300}}}
	does(t, h.Clone(), last, none, free{}, 0, 0)
	last.Word = code(t, "jal x3, 8")
	takes(t, h, last, none, free{}, func(s *state) { s.x[3], s.pc = 0, 4 })
	h = start{bytes: room, mode: api.User, pc: 0xFFC01230, satp: root}.make(t)
	does(t, h, api.Event{Kind: api.Retired, PC: 0xFFC01230, Word: 0x13, FPA: 0x1230, FWalk: []api.Pte{{Addr: 0x1FFC, Value: leafX(0)}}}, none, free{}, 0, 0)
}

// badWalks is entries for the address of a page that lead to a fault of the tables, whatever the access is.
func badWalks(page uint32) [][]api.Pte {
	return [][]api.Pte{
		{{Addr: 0x1000}}, {{Addr: 0x1000, Value: pte.Make(2, v, w)}}, {{Addr: 0x1000, Value: pte.Make(2, v, u)}},
		{{Addr: 0x1000, Value: pte.Make(1, v, r, w, x, u, a, d)}},
		{{Addr: 0x1000, Value: pte.Make(0, v, r, w, x, a, d)}},
		{table(), low(page, 0)}, {table(), low(page, pte.Make(3, v))}, {table(), low(page, pte.Make(3, v, r, w, x, a, d))},
		{table(), low(page, pte.Make(3, v, w, x, u, a, d))},
	}
}

// strayWalks is entries that lead out of memory.
func strayWalks(page uint32) [][]api.Pte {
	return [][]api.Pte{
		{{Addr: 0x1000, Value: pte.Make(16, v)}}, {{Addr: 0x1000, Value: pte.Make(1<<20, v)}}, {{Addr: 0x1000, Value: pte.Make(1<<22-1, v)}},
		{table(), low(page, pte.Make(1<<20, v, r, w, x, u, a, d))},
	}
}

func TestFetchFaults(t *testing.T) { // P10.2, P10.3
	own := [][]api.Pte{{table(), low(3, pte.Make(7, v, r, w, u, a, d))}}
	for _, l := range append(badWalks(3), own...) {
		checkFetchFault(t, l, api.InstPage)
	}
	for _, l := range strayWalks(3) {
		checkFetchFault(t, l, api.InstAccess)
	}
}

func checkFetchFault(t *testing.T, l []api.Pte, cause uint32) {
	t.Helper()
	h := paged(t, api.User)
	e := api.Event{Kind: api.Trapped, PC: 0x3000, FWalk: l, Cause: cause, Tval: 0x3000}
	word := e
	word.Word = 0x13
	refuses(t, h, word)
	traps(t, h, e)
}

func TestFetchNowhere(t *testing.T) { // P10.2, P10.3
	// The page is past the memory: where it lies is told.
	h := paged(t, api.User)
	traps(t, h, api.Event{Kind: api.Trapped, PC: 0x3000, FPA: 0x10000, FWalk: []api.Pte{table(), low(3, leafX(16))}, Cause: api.InstAccess, Tval: 0x3000})
	// A doorbell is nothing to fetch.
	h = paged(t, api.User)
	traps(t, h, api.Event{Kind: api.Trapped, PC: 0x3000, FPA: 0x40000000, FWalk: []api.Pte{table(), low(3, leafX(0x40000))}, Cause: api.InstAccess, Tval: 0x3000})
	// The table of level 1 is past the memory: nothing was read.
	h = start{bytes: room, mode: api.User, pc: 0x3000, satp: 0x80000010}.make(t)
	traps(t, h, api.Event{Kind: api.Trapped, PC: 0x3000, Cause: api.InstAccess, Tval: 0x3000})
	// Entries lie in memory as the hart has it.
	h = start{bytes: 0x2000, mode: api.User, pc: 0x3000, satp: root}.make(t)
	traps(t, h, api.Event{Kind: api.Trapped, PC: 0x3000, FWalk: []api.Pte{table()}, Cause: api.InstAccess, Tval: 0x3000})
}

func TestFetchAhead(t *testing.T) { // P10.2: what was fetched stays told where the instruction traps
	word := code(t, "wfi")
	traps(t, paged(t, api.User), faulted(fetched(word), api.Illegal, word))
	traps(t, paged(t, api.User), faulted(fetched(0), api.Illegal, 0))
	traps(t, paged(t, api.User), faulted(fetched(code(t, "ecall")), api.EcallUser, 0))
	traps(t, paged(t, api.User), faulted(fetched(code(t, "jal x3, 6")), api.InstMisaligned, 0x3006))
	traps(t, paged(t, api.User), faulted(fetched(code(t, "lw x3, 1(x1)")), api.LoadMisaligned, 0x4001))
	traps(t, paged(t, api.User), faulted(fetched(code(t, "sc.w x3, x1, (x2)")), api.StoreMisaligned, 0xFFFF9876))
}

// inPage is an access at x1, by an instruction that was fetched.
func inPage(t *testing.T, op int, l ...api.Pte) api.Event {
	t.Helper()
	e := fetched(encoded(t, instruction(op, 0)))
	e.Walk = l
	return e
}

// needs is the least that an entry has to have for an access; Sc and both are stores.
func needs(op int) uint32 {
	if isLoad(op) {
		return v | r | u | a
	}
	return v | r | w | u | a | d
}

func TestDataPages(t *testing.T) { // P10.3: each access, by a page and by a great one
	for _, op := range accesses() {
		for _, walk := range []struct {
			pa uint32
			l  []api.Pte
		}{
			{0x9000, []api.Pte{table(), low(4, pte.Make(9, needs(op)))}},
			{0x4000, []api.Pte{{Addr: 0x1000, Value: pte.Make(0, needs(op))}}},
		} {
			h := paged(t, api.User)
			e := inPage(t, op, walk.l...)
			e.PA = walk.pa
			may := free{done: op == api.Sc}
			if isLoad(op) || op >= api.Swap {
				may.load = uint32(1<<(8*alu.Size(op)) - 1)
			}
			checkData(t, h, e, op, may)
		}
	}
}

// checkData holds that an access of which 0 was read, at a register of 0xFFFF9876, is done.
func checkData(t *testing.T, h *hart.Hart, e api.Event, op int, may free) {
	t.Helper()
	effect, rd, got := hart.Effect{Addr: e.PA, Size: alu.Size(op)}, 3, uint32(0)
	switch {
	case isLoad(op):
		effect.Kind = api.Read
	case op == api.Sc:
		effect, got = none, 1
	case op <= api.Sw:
		effect.Kind, rd = api.Write, 0
		effect.Value = []uint32{0x76, 0x9876, 0xFFFF9876}[op-api.Sb]
	default:
		effect.Kind = api.Both
		effect.Value = []uint32{0xFFFF9876, 0xFFFF9876, 0xFFFF9876, 0, 0xFFFF9876, 0xFFFF9876, 0, 0, 0xFFFF9876}[op-api.Swap]
	}
	refuses(t, h, faulted(e, api.StorePage, 0x4000))
	does(t, h, e, effect, may, rd, got)
}

func TestDataFaults(t *testing.T) { // P10.2, P10.3
	for _, op := range accesses() {
		page, place := uint32(15), uint32(7)
		if isLoad(op) {
			page, place = 13, 5
		}
		lacks := []api.Pte{table(), low(4, pte.Make(9, v, x, u, a, d))}
		if !isLoad(op) {
			lacks[1].Value |= r
		}
		for _, l := range append(badWalks(4), lacks) {
			e := faulted(inPage(t, op, l...), page, 0x4000)
			traps(t, paged(t, api.User), e)
			e.PA = 0x9000
			refuses(t, paged(t, api.User), e)
		}
		for _, l := range strayWalks(4) {
			traps(t, paged(t, api.User), faulted(inPage(t, op, l...), place, 0x4000))
		}
		// The page is past the memory: where it lies is told.
		e := faulted(inPage(t, op, table(), low(4, pte.Make(16, needs(op)))), place, 0x4000)
		e.PA = 0x10000
		traps(t, paged(t, api.User), e)
	}
}

func TestDoorbellPages(t *testing.T) { // P10.2: a doorbell is where PA is, not the address
	for _, op := range accesses() {
		e := inPage(t, op, table(), low(4, pte.Make(0x40000, needs(op))))
		e.PA = 0x40000000
		h := paged(t, api.User)
		if op == api.Lw || op == api.Sw {
			must(t, h, e)
			continue
		}
		cause := uint32(7)
		if isLoad(op) {
			cause = 5
		}
		refuses(t, h, e)
		traps(t, h, faulted(e, cause, 0x4000))
	}
}

func TestMarks(t *testing.T) { // P10.3: entries have to be marked already
	h := paged(t, api.User)
	for _, missing := range []uint32{leafX(7) &^ a, leafX(7)&^a | d} {
		e := fetched(0x13)
		e.FWalk = []api.Pte{table(), low(3, missing)}
		refuses(t, h, e)
		refuses(t, h, api.Event{Kind: api.Trapped, PC: 0x3000, FWalk: e.FWalk, Cause: api.InstPage, Tval: 0x3000})
		e.FWalk = []api.Pte{table(), low(3, missing), low(3, missing|a)}
		refuses(t, h, e)
		e.FWalk[1] = e.FWalk[2]
		refuses(t, h, e)
		e.FWalk = e.FWalk[:2]
		must(t, h.Clone(), e)
	}
	for _, op := range accesses() {
		for _, mark := range []uint32{a, d} {
			e := inPage(t, op, table(), low(4, pte.Make(9, needs(op)&^mark)))
			e.PA = 0x9000
			if mark == d && isLoad(op) {
				must(t, h.Clone(), e)
				continue
			}
			refuses(t, h, e)
			e.PA = 0
			refuses(t, h, faulted(e, api.StorePage, 0x4000))
			refuses(t, h, faulted(e, api.LoadPage, 0x4000))
		}
	}
}

func TestWalksThatAreNotAsked(t *testing.T) { // P10.3: walk.Next answers Fault to these; they are no step
	h := paged(t, api.User)
	leaf := low(3, leafX(7))
	for _, l := range [][]api.Pte{
		nil, {table()}, {leaf}, {leaf, table()}, {table(), table()}, {table(), leaf, leaf}, {table(), leaf, {}},
		{{Addr: 0x1004, Value: 0}}, {{Addr: 0x1000}, {}}, {{Addr: 0x1000}, leaf}, {table(), low(4, leafX(7))}, {table(), low(4, 0)},
		{{Addr: 0x1000, Value: leafX(0)}, leaf}, {table(), low(3, 0), low(3, 0)},
	} {
		for _, e := range []api.Event{
			{Kind: api.Retired, PC: 0x3000, Word: 0x13, FPA: 0x7000, FWalk: l},
			{Kind: api.Retired, PC: 0x3000, Word: 0x13, FPA: 0x3000, FWalk: l},
			{Kind: api.Trapped, PC: 0x3000, FWalk: l, Cause: api.InstPage, Tval: 0x3000},
			{Kind: api.Trapped, PC: 0x3000, FWalk: l, Cause: api.InstAccess, Tval: 0x3000},
			{PC: 0x3000, FWalk: l},
		} {
			refuses(t, h, e)
		}
	}
	for _, l := range [][]api.Pte{nil, {table()}, {low(4, leafRW(9))}, {table(), low(3, leafRW(9))}, {table(), low(4, leafRW(9)), {}}, {{Addr: 0x1000}, {}}} {
		e := inPage(t, api.Lw, l...)
		refuses(t, h, faulted(e, api.LoadPage, 0x4000))
		for _, pa := range []uint32{0x9000, 0x4000} {
			e.PA = pa
			refuses(t, h, e)
		}
	}
}

func TestManyEntries(t *testing.T) { // P10.3: a long list is refused as a short one is
	h := paged(t, api.User)
	e := fetched(0x13)
	e.FWalk = append(e.FWalk, make([]api.Pte, 1<<20)...)
	refuses(t, h, e)
	e = inPage(t, api.Lw, make([]api.Pte, 1<<20)...)
	refuses(t, h, e)
	e = retired(paged(t, api.Machine), 0x13)
	e.Walk = make([]api.Pte, 1<<20)
	refuses(t, paged(t, api.Machine), e)
}
