package seq_test

import (
	"slices"
	"testing"

	"corral/api"
	"corral/pte"
)

const (
	rwxu   = pte.V | pte.R | pte.W | pte.X | pte.U
	marked = pte.A | pte.D
)

// The entries of tables, for User: of the first table, of the page of code, of the page of data.
const (
	down    = table>>12<<10 | pte.V
	ofCode  = begin>>12<<10 | rwxu | marked
	ofData  = data>>12<<10 | rwxu | marked
	codeAt  = table + 4*(begin>>12)
	dataAt  = table + 4*(data>>12)
	upperAt = root + 4*3 // of what begins at upper
	upper   = 3 << 22
)

// paging is a user of pages.
func paging(x ...uint32) seat {
	s := user(x...)
	s.satp = paged
	return s
}

// timed is the event with its times: those of FWalk, of the word, if it was read, of Walk, and its own.
func timed(now int, e api.Event, word bool) api.Event {
	next := func() int { now++; return now }
	e.FWalk, e.Walk = slices.Clone(e.FWalk), slices.Clone(e.Walk)
	for i := range e.FWalk {
		e.FWalk[i].At = next()
	}
	if word {
		e.FAt = next()
	}
	for i := range e.Walk {
		e.Walk[i].At = next()
	}
	e.At = next()
	return e
}

// fetched is an event of that word at begin, whose page is marked already.
func fetched(t *testing.T, line string, e api.Event) api.Event {
	t.Helper()
	e.PC, e.FPA, e.Word = begin, begin, code(t, line)[0]
	e.FWalk = []api.Pte{{Addr: root, Value: down}, {Addr: codeAt, Value: ofCode}}
	return e
}

// mark is an entry that was marked.
func mark(addr, old, flags uint32) api.Pte {
	return api.Pte{Addr: addr, Value: old | flags, Old: old, Wrote: true}
}

func TestWalks(t *testing.T) { // P11.1: entries are read from memory, each at a time of its own
	m := tables(lines(t, "sw x1, 0(x2)"))
	one := taken(t, m, paging(7, data+8))
	e := fetched(t, "sw x1, 0(x2)", api.Event{Kind: api.Retired, PA: data + 8})
	e.Walk = []api.Pte{{Addr: root, Value: down}, {Addr: dataAt, Value: ofData}}
	want := timed(one.Now(), e, true)
	if now := one.Now(); want.FWalk[0].At != now+1 || want.FWalk[1].At != now+2 || want.FAt != now+3 || want.Walk[0].At != now+4 || want.Walk[1].At != now+5 || want.At != now+6 {
		t.Fatalf("the test's own times: %+v", want)
	}
	does(t, one, 0, want, wrote(data+8, 7))
	one = taken(t, tables(lines(t, "ecall")), paging())
	does(t, one, 0, timed(one.Now(), fetched(t, "ecall", api.Event{Kind: api.Trapped, Cause: api.EcallUser}), true))
	one = taken(t, tables(lines(t, "lw x1, 2(x2)")), paging(7, data))
	e = fetched(t, "lw x1, 2(x2)", api.Event{Kind: api.Trapped, Cause: api.LoadMisaligned, Tval: data + 2})
	does(t, one, 0, timed(one.Now(), e, true))
}

func TestNoWalks(t *testing.T) { // P11.1: Machine has no pages, nor has User where Satp is off
	s, off := machine(7, data), user(7, data)
	s.satp, off.satp = paged, paged&^(1<<31)
	for _, s := range []seat{s, off} {
		m := taken(t, tables(lines(t, "sw x1, 0(x2)")), s)
		e := api.Event{Kind: api.Retired, PC: begin, FPA: begin, Word: 0x00112023, PA: data}
		does(t, m, 0, timed(m.Now(), e, true), wrote(data, 7))
	}
}

func TestMarksOfData(t *testing.T) { // P11.1: what has to be marked is, at one time, and memory has it
	for _, x := range []struct {
		line      string
		had, gets uint32
	}{
		{"lw x3, 0(x2)", 0, pte.A}, {"lw x3, 0(x2)", pte.D, pte.A}, {"lw x3, 0(x2)", pte.A, 0},
		{"lr.w x3, (x2)", 0, pte.A}, {"lb x3, 0(x2)", pte.G, pte.A},
		{"sw x0, 0(x2)", 0, marked}, {"sw x0, 0(x2)", pte.A, pte.D}, {"sw x0, 0(x2)", pte.D, pte.A}, {"sw x0, 0(x2)", marked, 0},
		{"sc.w x3, x0, (x2)", 0, marked}, {"sc.w x3, x0, (x2)", pte.A, pte.D},
		{"amoor.w x3, x0, (x2)", 0, marked}, {"amoor.w x3, x0, (x2)", pte.A, pte.D},
	} {
		m := tables(lines(t, x.line))
		old := uint32(data>>12<<10 | rwxu | x.had)
		m.put(dataAt, old)
		one := taken(t, m, paging(7, data))
		e := fetched(t, x.line, api.Event{Kind: api.Retired, PA: data})
		last := api.Pte{Addr: dataAt, Value: old}
		if x.gets != 0 {
			last = mark(dataAt, old, x.gets)
		}
		e.Walk = []api.Pte{{Addr: root, Value: down}, last}
		does(t, one, 0, timed(one.Now(), e, true), wrote(dataAt, old|x.gets))
	}
}

func TestMarksOfCode(t *testing.T) { // P11.1: a fetch marks A; what it marked the access of the same step finds
	for _, had := range []uint32{0, pte.D, pte.A} {
		m := tables(lines(t, "sw x1, 64(x2)"))
		old := uint32(begin>>12<<10 | rwxu | had)
		m.put(codeAt, old)
		one := taken(t, m, paging(7, begin))
		e := fetched(t, "sw x1, 64(x2)", api.Event{Kind: api.Retired, PA: begin + 64})
		e.FWalk[1] = api.Pte{Addr: codeAt, Value: old}
		if had&pte.A == 0 {
			e.FWalk[1] = mark(codeAt, old, pte.A)
		}
		e.Walk = []api.Pte{{Addr: root, Value: down}, {Addr: codeAt, Value: old | pte.A}}
		if had&pte.D == 0 {
			e.Walk[1] = mark(codeAt, old|pte.A, pte.D)
		}
		does(t, one, 0, timed(one.Now(), e, true), wrote(codeAt, old|marked), wrote(begin+64, 7))
	}
}

func TestMarksStay(t *testing.T) { // P11.1: an entry is marked also where the access traps behind it
	for _, x := range []struct {
		line  string
		page  uint32
		gets  uint32
		cause uint32
		pa    uint32
	}{
		{"lw x3, 4(x2)", room >> 12, pte.A, api.LoadAccess, room + 4},
		{"sw x3, 4(x2)", room >> 12, marked, api.StoreAccess, room + 4},
		{"sw x3, 4(x2)", 0xFFFFF, marked, api.StoreAccess, 0xFFFFF004},
		{"lw x3, 4(x2)", 0x100000, pte.A, api.LoadAccess, 0},
		{"sw x3, 4(x2)", 0x3FFFFF, marked, api.StoreAccess, 0},
		{"sb x3, 4(x2)", bell >> 12, marked, api.StoreAccess, bell + 4},
	} {
		m := tables(lines(t, x.line))
		old := x.page<<10 | rwxu
		m.put(dataAt, old)
		one := taken(t, m, paging(7, data))
		e := fetched(t, x.line, api.Event{Kind: api.Trapped, Cause: x.cause, Tval: data + 4, PA: x.pa})
		e.Walk = []api.Pte{{Addr: root, Value: down}, mark(dataAt, old, x.gets)}
		does(t, one, 0, timed(one.Now(), e, true), wrote(dataAt, old|x.gets))
	}
	for page, fpa := range map[uint32]uint32{room >> 12: room, 0x100000: 0} {
		m := tables(image{})
		old := page<<10 | rwxu
		m.put(codeAt, old)
		one := taken(t, m, paging())
		e := api.Event{Kind: api.Trapped, PC: begin, FPA: fpa, Cause: api.InstAccess, Tval: begin}
		e.FWalk = []api.Pte{{Addr: root, Value: down}, mark(codeAt, old, pte.A)}
		does(t, one, 0, timed(one.Now(), e, false), wrote(codeAt, old|pte.A))
	}
}

// bad is entries by which nothing may be read, written or fetched in User; none of them is marked.
func bad() []uint32 {
	at := uint32(data >> 12 << 10)
	return []uint32{0, at | rwxu&^pte.V, at | pte.V | pte.W | pte.U, at | rwxu&^pte.U, at | pte.V | pte.U, at | pte.V, at | pte.V | pte.A}
}

func TestPageFaults(t *testing.T) { // P11.1: what a walk faults by is told as far as it was read, and not marked
	for _, old := range bad() {
		for line, cause := range map[string]uint32{"lw x3, 0(x2)": api.LoadPage, "lr.w x3, (x2)": api.LoadPage, "sw x3, 0(x2)": api.StorePage, "sc.w x3, x3, (x2)": api.StorePage, "amoadd.w x3, x3, (x2)": api.StorePage} {
			m := tables(lines(t, line))
			m.put(dataAt, old)
			one := taken(t, m, paging(7, data))
			e := fetched(t, line, api.Event{Kind: api.Trapped, Cause: cause, Tval: data})
			e.Walk = []api.Pte{{Addr: root, Value: down}, {Addr: dataAt, Value: old}}
			does(t, one, 0, timed(one.Now(), e, true))
		}
		m := tables(image{})
		m.put(codeAt, old)
		one := taken(t, m, paging())
		e := api.Event{Kind: api.Trapped, PC: begin, Cause: api.InstPage, Tval: begin}
		e.FWalk = []api.Pte{{Addr: root, Value: down}, {Addr: codeAt, Value: old}}
		does(t, one, 0, timed(one.Now(), e, false))
	}
}

func TestRights(t *testing.T) { // P11.1: each sort of access asks for its own right; where it has it not, nothing is marked
	for _, x := range []struct {
		line  string
		may   uint32
		cause uint32
	}{
		{"lw x3, 0(x2)", pte.X, api.LoadPage}, {"sw x3, 0(x2)", pte.R, api.StorePage}, {"sw x3, 0(x2)", pte.R | pte.X, api.StorePage},
		{"sc.w x3, x3, (x2)", pte.R, api.StorePage}, {"amoadd.w x3, x3, (x2)", pte.R, api.StorePage},
	} {
		m := tables(lines(t, x.line))
		old := uint32(data>>12<<10|pte.V|pte.U) | x.may
		m.put(dataAt, old)
		one := taken(t, m, paging(7, data))
		e := fetched(t, x.line, api.Event{Kind: api.Trapped, Cause: x.cause, Tval: data})
		e.Walk = []api.Pte{{Addr: root, Value: down}, {Addr: dataAt, Value: old}}
		does(t, one, 0, timed(one.Now(), e, true))
	}
	m := tables(image{})
	old := uint32(begin>>12<<10 | rwxu&^pte.X)
	m.put(codeAt, old)
	one := taken(t, m, paging())
	e := api.Event{Kind: api.Trapped, PC: begin, Cause: api.InstPage, Tval: begin}
	e.FWalk = []api.Pte{{Addr: root, Value: down}, {Addr: codeAt, Value: old}}
	does(t, one, 0, timed(one.Now(), e, false))
}

func TestNoTables(t *testing.T) { // P11.1: entries that are not in memory are not read
	s := paging()
	s.satp = 1<<31 | room>>12
	m := taken(t, image{}, s)
	does(t, m, 0, api.Event{Kind: api.Trapped, PC: begin, Cause: api.InstAccess, Tval: begin, At: m.Now() + 1})
	for _, page := range []uint32{room >> 12, 0x100000, 0x3FFFFF} {
		all := tables(image{})
		away := page<<10 | pte.V
		all.put(root, away)
		m := taken(t, all, paging())
		e := api.Event{Kind: api.Trapped, PC: begin, Cause: api.InstAccess, Tval: begin, FWalk: []api.Pte{{Addr: root, Value: away}}}
		does(t, m, 0, timed(m.Now(), e, false))
		all = tables(lines(t, "lw x3, 0(x1)"))
		all.put(upperAt, away)
		m = taken(t, all, paging(upper+8))
		e = fetched(t, "lw x3, 0(x1)", api.Event{Kind: api.Trapped, Cause: api.LoadAccess, Tval: upper + 8})
		e.Walk = []api.Pte{{Addr: upperAt, Value: away}}
		does(t, m, 0, timed(m.Now(), e, true))
	}
}

func TestGreatPages(t *testing.T) { // P11.1: a leaf of level 1 is read alone, and marked there
	m := tables(lines(t, "sw x1, 0(x2)"))
	m.put(upperAt, rwxu)
	one := taken(t, m, paging(7, upper+data))
	e := fetched(t, "sw x1, 0(x2)", api.Event{Kind: api.Retired, PA: data})
	e.Walk = []api.Pte{mark(upperAt, rwxu, marked)}
	does(t, one, 0, timed(one.Now(), e, true), wrote(upperAt, rwxu|marked), wrote(data, 7))
	m.put(upperAt, 1<<10|rwxu)
	one = taken(t, m, paging(7, upper+data))
	e = fetched(t, "sw x1, 0(x2)", api.Event{Kind: api.Trapped, Cause: api.StorePage, Tval: upper + data})
	e.Walk = []api.Pte{{Addr: upperAt, Value: 1<<10 | rwxu}}
	does(t, one, 0, timed(one.Now(), e, true))
}

func TestTablesAreMemory(t *testing.T) { // P11.1: what a store puts into a table the next step finds there
	m := taken(t, tables(lines(t, "sw x0, 0(x2)", "addi x3, x0, 1")), paging(0, codeAt))
	if e := must(t, m, 0); e.Kind != api.Retired || e.PA != codeAt {
		t.Fatalf("%+v", e)
	}
	want := api.Event{Kind: api.Trapped, PC: begin + 4, Cause: api.InstPage, Tval: begin + 4}
	want.FWalk = []api.Pte{{Addr: root, Value: down}, {Addr: codeAt}}
	does(t, m, 0, timed(m.Now(), want, false))
}
