package seq_test

import (
	"testing"

	"corral/api"
	"corral/seq"
)

// The harts of these tests: hart 0 reserves the four bytes at data, hart 1 does what is asked at other.
const other = begin + 0x400

// pair is a machine of two harts: the first has begun with an Lr of data, the second is at lines of its own.
func pair(t *testing.T, first, second []string) *seq.Machine {
	t.Helper()
	m := lines(t, append([]string{"lr.w x3, (x2)"}, first...)...)
	m.put(other, code(t, second...)...)
	m.put(data, 0x11111111, 0x22222222)
	one, two := machine(7, data, 0, data+4, bell), machine(9, data, 0, data+4, bell)
	two.pc = other
	out := taken(t, m, one, two)
	if e := must(t, out, 0); e.Load != 0x11111111 || e.Kind != api.Retired {
		t.Fatalf("%+v", e)
	}
	return out
}

// sc holds that the next step of hart h is an Sc of x1 at pa, and whether it is done.
func sc(t *testing.T, m *seq.Machine, h int, pa uint32, done bool) {
	t.Helper()
	was, b := load(t, m, pa), m.Hart(h).X(1)
	e := must(t, m, h)
	want, reg := was, uint32(1)
	if done {
		want, reg = b, 0
	}
	if e.Kind != api.Retired || e.PA != pa || e.Done != done || e.Load != 0 {
		t.Errorf("%+v", e)
	}
	if load(t, m, pa) != want || m.Hart(h).X(6) != reg {
		t.Errorf("%x %d: %+v", load(t, m, pa), m.Hart(h).X(6), e)
	}
}

func TestConditional(t *testing.T) { // P11.1: done once, where its bytes are reserved
	m := pair(t, []string{"sc.w x6, x1, (x2)", "sc.w x6, x1, (x2)"}, []string{"sc.w x6, x1, (x2)"})
	sc(t, m, 1, data, false)
	sc(t, m, 0, data, true)
	sc(t, m, 0, data, false)
	m = pair(t, []string{"sc.w x6, x1, (x4)", "sc.w x6, x1, (x2)"}, nil)
	sc(t, m, 0, data+4, false)
	sc(t, m, 0, data, false)
	m = pair(t, []string{"lr.w x3, (x4)", "sc.w x6, x1, (x2)"}, nil)
	must(t, m, 0)
	sc(t, m, 0, data, false)
	m = pair(t, []string{"lr.w x3, (x4)", "lr.w x3, (x2)", "sc.w x6, x1, (x2)"}, nil)
	m.Run(0, 0)
	sc(t, m, 0, data, true)
	m = taken(t, lines(t, "sc.w x6, x1, (x2)"), machine(7, 0))
	sc(t, m, 0, 0, false)
}

func TestReservationLasts(t *testing.T) { // P11.1: what does not end it, of the hart itself
	for _, line := range []string{
		"sw x4, 0(x2)", "sb x4, 1(x2)", "amoadd.w x3, x4, (x2)", "lw x3, 0(x2)", "amoadd.w x3, x4, (x4)",
		"fence 15, 15", "fence.i", "sfence.vma x0, x0", "csrrwi x0, 0x340, 3", "jal x3, 4", "sw x0, 4(x5)", "lw x3, 0(x5)",
	} {
		m := pair(t, []string{line, "sc.w x6, x1, (x2)"}, nil)
		if e := must(t, m, 0); e.Kind != api.Retired {
			t.Fatalf("%s: %+v", line, e)
		}
		sc(t, m, 0, data, true)
	}
}

func TestReservationEnds(t *testing.T) { // P11.1: by a write of another hart over one of its bytes, and by no other
	for line, done := range map[string]bool{
		"sb x1, 0(x2)": false, "sb x1, 3(x2)": false, "sh x1, 2(x2)": false, "sw x1, 0(x2)": false, "sw x3, 0(x2)": false,
		"amoadd.w x6, x0, (x2)": false, "amoswap.w x6, x1, (x2)": false,
		"sb x1, -1(x2)": true, "sb x1, 4(x2)": true, "sh x1, -2(x2)": true, "sw x1, 4(x2)": true, "sw x1, -4(x2)": true,
		"amoadd.w x6, x0, (x4)": true, "lw x6, 0(x2)": true, "lr.w x6, (x2)": true, "sc.w x6, x1, (x2)": true,
		"sw x1, 1(x2)": true, "sw x1, 12(x5)": true, "ebreak": true, "mret": true, "fence.i": true,
	} {
		m := pair(t, []string{"sc.w x6, x1, (x2)"}, []string{line})
		must(t, m, 1)
		sc(t, m, 0, data, done)
	}
	m := pair(t, []string{"sc.w x6, x1, (x2)"}, []string{"lr.w x6, (x2)", "sc.w x6, x1, (x2)"})
	m.Run(1)
	sc(t, m, 1, data, true)
	sc(t, m, 0, data, false)
	m = pair(t, []string{"sc.w x6, x1, (x2)"}, []string{"lr.w x6, (x2)", "sc.w x6, x1, (x2)"})
	m.Run(1)
	sc(t, m, 0, data, true)
	sc(t, m, 1, data, false)
	m = pair(t, []string{"lr.w x3, (x2)", "sc.w x6, x1, (x2)"}, []string{"sw x1, 0(x2)"})
	m.Run(1, 0)
	sc(t, m, 0, data, true)
}

// trapping is hart 0 behind an Lr of data and a step that goes to vector, where an Sc of data is.
func trapping(t *testing.T, s seat, line string) *seq.Machine {
	t.Helper()
	m := lines(t, "lr.w x3, (x2)", line)
	m.put(vector, code(t, "sc.w x6, x1, (x2)")...)
	return taken(t, m, s)
}

func TestTrapsEndReservations(t *testing.T) { // P11.1: a trap, an interrupt, an Mret
	for _, line := range []string{"ecall", "ebreak", "csrrw x0, 0xf14, x0", "jal x0, 2", "lw x3, 1(x2)", "sw x3, -4(x0)", "lr.w x3, (x4)", "sc.w x3, x3, (x4)"} {
		m := trapping(t, machine(7, data, 0, 2), line)
		must(t, m, 0)
		if e := must(t, m, 0); e.Kind != api.Trapped {
			t.Fatalf("%s: %+v", line, e)
		}
		sc(t, m, 0, data, false)
	}
	s := machine(7, data, 0, 0, bell)
	s.mie, s.enabled = 8, true
	m := trapping(t, s, "sw x1, 0(x5)")
	m.Run(0, 0)
	if e := must(t, m, 0); e.Kind != api.Interrupted {
		t.Fatalf("%+v", e)
	}
	sc(t, m, 0, data, false)
	l := lines(t, "csrrw x0, 0x341, x4", "lr.w x3, (x2)", "mret")
	l.put(other, code(t, "sc.w x6, x1, (x2)")...)
	m = taken(t, l, machine(7, data, 0, other))
	m.Run(0, 0, 0)
	sc(t, m, 0, data, false)
}

func TestFetchTrapEndsReservation(t *testing.T) { // P11.1: that of a word that can not be fetched, too
	s := machine(7, data, 0, room)
	m := trapping(t, s, "jalr x0, 0(x4)")
	m.Run(0, 0)
	if e := must(t, m, 0); e.Cause != api.InstAccess || e.Kind != api.Trapped {
		t.Fatalf("%+v", e)
	}
	sc(t, m, 0, data, false)
}

// entryPair is two users of pages: the first reserves the entry of the page of data, which has no mark yet, and the next step of both marks it.
func entryPair(t *testing.T, next string) *seq.Machine {
	t.Helper()
	m := tables(lines(t, "lr.w x3, (x2)", next, "sc.w x6, x1, (x2)"))
	m.put(other, code(t, next)...)
	m.put(dataAt, data>>12<<10|rwxu)
	one := paging(ofData, dataAt, 0, data)
	two := one
	two.pc = other
	out := taken(t, m, one, two)
	must(t, out, 0)
	return out
}

func TestEntriesAndReservations(t *testing.T) { // P11.1: an entry that another hart marks ends it, one of its own does not
	for _, next := range []string{"lw x5, 0(x4)", "sw x5, 0(x4)"} {
		m := entryPair(t, next)
		if e := must(t, m, 0); !e.Walk[1].Wrote || e.Walk[1].Addr != dataAt {
			t.Fatalf("%+v", e)
		}
		sc(t, m, 0, dataAt, true)
		m = entryPair(t, next)
		if e := must(t, m, 1); !e.Walk[1].Wrote || e.Walk[1].Addr != dataAt {
			t.Fatalf("%+v", e)
		}
		must(t, m, 0)
		sc(t, m, 0, dataAt, false)
	}
}

func TestFetchEntriesAndReservations(t *testing.T) { // P11.1: those that a fetch marks likewise
	m := tables(lines(t, "lr.w x3, (x2)", "jalr x0, 0(x4)"))
	m.put(data, code(t, "sc.w x6, x1, (x2)", "addi x7, x7, 1")...)
	m.put(dataAt, data>>12<<10|rwxu)
	one, two := paging(ofData, dataAt, 0, data), paging(0)
	two.pc = data + 4
	out := taken(t, m, one, two)
	out.Run(0, 0)
	sc(t, out, 0, dataAt, true)
	out = taken(t, m, one, two)
	out.Run(0, 0)
	if e := must(t, out, 1); !e.FWalk[1].Wrote {
		t.Fatalf("%+v", e)
	}
	sc(t, out, 0, dataAt, false)
}

func TestPlacesAreReserved(t *testing.T) { // P11.1: bytes are reserved, by whatever address they are reached
	m := tables(lines(t, "lr.w x3, (x2)", "sc.w x6, x1, (x4)"))
	m.put(upperAt, rwxu|marked)
	m.put(other, code(t, "sw x1, 0(x4)")...)
	one := paging(7, data, 0, upper+data)
	two := one
	two.pc = other
	out := taken(t, m, one, two)
	must(t, out, 0)
	sc(t, out, 0, data, true)
	out = taken(t, m, one, two)
	out.Run(0, 1)
	sc(t, out, 0, data, false)
}
