package seq_test

import (
	"strconv"
	"testing"

	"corral/api"
	"corral/seq"
)

const mip = 8 // where it stands in what All tells; its bit, too

// rung tells whether hart h's bell is.
func rung(m *seq.Machine, h int) bool { return m.Hart(h).All()[mip] != 0 }

// ringer is lines of a hart that writes x1 to the bell of hart h, then 0, then reads it.
func ringer(h int) []string {
	at := strconv.Itoa(4*h) + "(x5)"
	return []string{"sw x1, " + at, "lw x3, " + at, "sw x0, " + at, "lw x4, " + at}
}

// bellEvent is an event of that line at pc, at a doorbell.
func bellEvent(t *testing.T, m *seq.Machine, pc uint32, line string, h int, got uint32) api.Event {
	t.Helper()
	return api.Event{Kind: api.Retired, PC: pc, FPA: pc, Word: code(t, line)[0], PA: bell + 4*uint32(h), Load: got, FAt: m.Now() + 1, At: m.Now() + 2}
}

// looks is how these three harts are.
func looks(m *seq.Machine) [3]state {
	return [3]state{look(m.Hart(0)), look(m.Hart(1)), look(m.Hart(2))}
}

func TestDoorbells(t *testing.T) { // P11.1: each rings its own hart, and says whether it is rung; of harts that there are not nothing
	for h := range api.MaxHarts {
		for _, v := range []uint32{1, 2, 8, 0x80000000, 0xFFFFFFFF} {
			l := ringer(h)
			m := taken(t, lines(t, l...), machine(v, 0, 0, 0, bell), machine(), machine())
			for i, line := range l {
				got, rings := [4]uint32{0, 1, 0, 0}[i], [4]uint32{8, 8, 0, 0}[i]
				if h == 3 {
					got = 0
				}
				e := bellEvent(t, m, begin+4*uint32(i), line, h, got)
				one, memory, want := m.Hart(0), m.Memory(), looks(m)
				one.Replay(e)
				want[0] = look(one)
				if h < 3 {
					want[h].all[mip] = rings
				}
				if got := must(t, m, 0); !equal(got, e) {
					t.Errorf("%d: %+v, not %+v", h, got, e)
				}
				if looks(m) != want {
					t.Errorf("%d %s: %+v, not %+v", h, line, looks(m), want)
				}
				same(t, m, memory)
			}
		}
	}
}

func TestBellsInUser(t *testing.T) { // P11.1: they ring by pages, too, and say of a hart in User what they say of all
	l := tables(lines(t, "sw x1, 0(x5)", "lw x3, 0(x5)", "sw x0, 0(x5)"))
	m := taken(t, l, paging(1, 0, 0, 0, bell+4), user())
	if m.Run(0); !rung(m, 1) || rung(m, 0) {
		t.Error("not rung")
	}
	if e := must(t, m, 0); m.Hart(0).X(3) != 1 || e.Load != 1 || e.PA != bell+4 || len(e.Walk) != 1 {
		t.Errorf("%+v", e)
	}
	if m.Run(0); rung(m, 1) {
		t.Error("not stopped")
	}
}

func TestMip(t *testing.T) { // P11.1: of Csr's that read it Load tells what it was, and it stays
	for _, line := range []string{"csrrs x3, 0x344, x0", "csrrc x3, 0x344, x0", "csrrw x3, 0x344, x0", "csrrw x0, 0x344, x1", "csrrwi x3, 0x344, 0", "csrrci x3, 0x344, 8", "csrrsi x3, 0x344, 8", "csrrs x0, 0x344, x0"} {
		for _, v := range []uint32{0, 1} {
			m := taken(t, lines(t, "sw x1, 0(x5)", line), machine(v, 0, 0, 0, bell))
			must(t, m, 0)
			w := code(t, line)[0]
			e := api.Event{Kind: api.Retired, PC: begin + 4, FPA: begin + 4, Word: w, Load: 8 * v, FAt: m.Now() + 1, At: m.Now() + 2}
			does(t, m, 0, e)
			if rung(m, 0) != (v == 1) || w>>7&31 != 0 && m.Hart(0).X(3) != 8*v {
				t.Error(line, v, m.Hart(0).X(3))
			}
		}
	}
	m := taken(t, lines(t, "sw x1, 0(x5)", "csrrs x3, 0x344, x0"), user(1, 0, 0, 0, bell))
	must(t, m, 0)
	w := code(t, "csrrs x3, 0x344, x0")[0]
	does(t, m, 0, api.Event{Kind: api.Trapped, PC: begin + 4, FPA: begin + 4, Word: w, Cause: api.Illegal, Tval: w, FAt: m.Now() + 1, At: m.Now() + 2})
}

func TestInterrupts(t *testing.T) { // P11.1: first, where csr's Pending says so, and at one time
	for _, mode := range []int{api.User, api.Machine} {
		for n := range 8 {
			s := seated(mode, []uint32{uint32(n & 1), 0, 0, 0, bell})
			s.mie, s.enabled = uint32(n&2)*4, n&4 != 0
			m := taken(t, lines(t, "sw x1, 0(x5)", "addi x3, x0, 1"), s)
			must(t, m, 0)
			e := api.Event{Kind: api.Interrupted, PC: begin + 4, Cause: api.SoftInterrupt, At: m.Now() + 1}
			if n&3 != 3 || mode == api.Machine && !s.enabled {
				e = api.Event{Kind: api.Retired, PC: begin + 4, FPA: begin + 4, Word: 0x00100193, FAt: m.Now() + 1, At: m.Now() + 2}
			}
			does(t, m, 0, e)
		}
	}
}

func TestInterruptsAgain(t *testing.T) { // P11.1: the bell rings until it is stopped
	for _, stops := range []bool{false, true} {
		m := lines(t, "sw x1, 0(x5)", "addi x3, x0, 1")
		m.put(vector, code(t, "addi x4, x4, 1", "mret")...)
		if stops {
			m.put(vector, code(t, "sw x0, 0(x5)", "mret")...)
		}
		s := machine(1, 0, 0, 0, bell)
		s.mie, s.enabled = 8, true
		out := taken(t, m, s)
		l := out.Run(0, 0, 0, 0, 0)
		want := api.Interrupted
		if stops {
			want = api.Retired
		}
		if l[1].Kind != api.Interrupted || l[3].Word != 0x30200073 || l[4].Kind != want || l[4].PC != begin+4 {
			t.Errorf("%v: %+v", stops, l)
		}
	}
}

func TestInterruptsFirst(t *testing.T) { // P11.1: ahead of entries, of the word, and of its traps
	for _, line := range []string{"ebreak", "ecall", "lw x3, 1(x0)", "wfi"} {
		s := paging(1, 0, 0, 0, bell)
		s.mie = 8
		m := taken(t, tables(lines(t, "sw x1, 0(x5)", line)), s)
		must(t, m, 0)
		memory := m.Memory()
		does(t, m, 0, api.Event{Kind: api.Interrupted, PC: begin + 4, Cause: api.SoftInterrupt, At: m.Now() + 1})
		same(t, m, memory)
	}
}

// sleeper is hart 0 behind a Wfi, its bell rung ahead of it or not; hart 1 has lines of its own, at the bell of hart 0.
func sleeper(t *testing.T, before, mie uint32, enabled bool, second ...string) *seq.Machine {
	t.Helper()
	m := lines(t, "sw x1, 0(x5)", "wfi", "addi x3, x0, 1")
	m.put(other, code(t, second...)...)
	one, two := machine(before, 0, 0, 0, bell), machine(7, 0, 0, 0, bell)
	one.mie, one.enabled = mie, enabled
	two.pc = other
	out := taken(t, m, one, two)
	out.Run(0)
	now := out.Now()
	e := must(t, out, 0)
	if e.Kind != api.Retired || e.Word != 0x10500073 || e.FAt != now+1 || e.At != now+2 {
		t.Errorf("%+v", e)
	}
	return out
}

func TestWaits(t *testing.T) { // P11.1, P11.2: until it is rung while bit 3 of Mie is 1; not at all, if both hold
	for _, x := range []struct {
		before, mie uint32
		second      []string
		waits       []bool // ahead of these lines, and behind each
	}{
		{0, 8, []string{"sw x1, 0(x5)", "sw x0, 0(x5)"}, []bool{true, false, false}},
		{0, 8, []string{"sw x0, 0(x5)", "lw x3, 0(x5)", "sw x1, 4(x5)", "sw x1, 8(x5)", "sw x1, 0(x5)"}, []bool{true, true, true, true, true, false}},
		{0, 0, []string{"sw x1, 0(x5)", "sw x0, 0(x5)", "sw x1, 0(x5)"}, []bool{true, true, true, true}},
		{1, 0, []string{"sw x1, 0(x5)", "sw x0, 0(x5)", "sw x1, 0(x5)"}, []bool{true, true, true, true}},
		{1, 8, []string{"sw x0, 0(x5)"}, []bool{false, false}},
	} {
		m := sleeper(t, x.before, x.mie, false, x.second...)
		for i, want := range x.waits {
			if i > 0 {
				must(t, m, 1)
			}
			if m.Waits(0) != want || m.Waits(1) {
				t.Errorf("%+v: %d: %v", x, i, m.Waits(0))
			}
			if now := m.Now(); want {
				if e, is := m.Step(0); is || !equal(e, api.Event{}) || m.Now() != now {
					t.Errorf("%+v: %+v", x, e)
				}
			}
		}
	}
}

func TestWakes(t *testing.T) { // P11.1: what comes next is done as ever
	for _, stops := range []bool{false, true} {
		for _, enabled := range []bool{false, true} {
			m := sleeper(t, 0, 8, enabled, "sw x1, 0(x5)", "sw x0, 0(x5)")
			m.Run(1)
			if stops {
				m.Run(1)
			}
			e := api.Event{Kind: api.Interrupted, PC: begin + 8, Cause: api.SoftInterrupt, At: m.Now() + 1}
			if stops || !enabled {
				e = api.Event{Kind: api.Retired, PC: begin + 8, FPA: begin + 8, Word: 0x00100193, FAt: m.Now() + 1, At: m.Now() + 2}
			}
			does(t, m, 0, e)
		}
	}
}

func TestWaitsAgain(t *testing.T) { // P11.1: each Wfi waits for itself
	m := lines(t, "wfi", "wfi", "addi x3, x0, 1")
	m.put(other, code(t, "sw x1, 0(x5)", "sw x0, 0(x5)", "sw x1, 0(x5)")...)
	one, two := machine(), machine(7, 0, 0, 0, bell)
	one.mie, two.pc = 8, other
	out := taken(t, m, one, two)
	if l := out.Run(0, 0, 1, 1, 0, 0, 1, 0); len(l) != 6 || out.Hart(0).X(3) != 1 {
		t.Errorf("%+v", l)
	}
}

func TestWaitAndReservation(t *testing.T) { // P11.1: a Wfi does not end a reservation, what others write meanwhile does
	for _, writes := range []bool{false, true} {
		m := lines(t, "lr.w x3, (x2)", "wfi", "sc.w x6, x1, (x2)")
		m.put(other, code(t, "sw x1, 4(x2)", "sw x1, 0(x5)")...)
		if writes {
			m.put(other, code(t, "sw x1, 0(x2)", "sw x1, 0(x5)")...)
		}
		one, two := machine(7, data), machine(9, data, 0, 0, bell)
		one.mie, two.pc = 8, other
		out := taken(t, m, one, two)
		out.Run(0, 0, 1, 1)
		sc(t, out, 0, data, !writes)
	}
}
