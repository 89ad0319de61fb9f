package seq_test

import (
	"strings"
	"testing"

	"corral/api"
)

// stepped holds that the line at begin is this event, but for its place, its word and its times, and that memory is then as it was but for these writes.
func stepped(t *testing.T, s seat, line string, want api.Event, writes ...api.Pte) {
	t.Helper()
	steppedWord(t, s, code(t, line)[0], want, writes...)
}

// steppedWord is stepped of any word.
func steppedWord(t *testing.T, s seat, w uint32, want api.Event, writes ...api.Pte) {
	t.Helper()
	var m image
	m.put(begin, w)
	m.put(data, 0x8899AABB, 0xCCDDEEFF)
	m.put(room-4, 0x12345678)
	one := taken(t, m, s)
	want.PC, want.FPA, want.Word = begin, begin, w
	want.FAt, want.At = one.Now()+1, one.Now()+2
	does(t, one, 0, want, writes...)
}

// wrote is a word that was written.
func wrote(addr, v uint32) api.Pte { return api.Pte{Addr: addr, Value: v} }

func TestReckoning(t *testing.T) { // P11.1: what has nothing to do with memory is done, and takes two times
	l := []string{"lui x1, 5", "auipc x1, 5", "addi x3, x1, -1", "mul x3, x1, x2", "sra x3, x1, x2", "div x3, x1, x0",
		"jal x1, 16", "jal x0, -4096", "jalr x1, 1(x0)", "jalr x5, 4(x2)", "beq x1, x2, 2", "bne x1, x2, 8", "bgeu x0, x0, -4",
		"fence 15, 15", "fence 0, 0", "fence.i"}
	for _, line := range l {
		stepped(t, machine(5, data), line, api.Event{Kind: api.Retired})
		stepped(t, user(5, data), line, api.Event{Kind: api.Retired})
	}
	for _, line := range []string{"mret", "sfence.vma x0, x0", "sfence.vma x1, x2", "wfi", "csrrw x3, 0x340, x1", "csrrs x3, 0xf14, x0", "csrrci x3, 0x300, 8", "csrrwi x0, 0x180, 1"} {
		stepped(t, machine(5, data), line, api.Event{Kind: api.Retired})
	}
}

func TestLoads(t *testing.T) { // P11.1: a read tells as many bytes as were asked for
	for line, v := range map[string]uint32{
		"lb x3, 0(x2)": 0xBB, "lb x3, 3(x2)": 0x88, "lbu x3, 1(x2)": 0xAA, "lh x3, 2(x2)": 0x8899, "lhu x3, 0(x2)": 0xAABB,
		"lw x3, 0(x2)": 0x8899AABB, "lw x0, 4(x2)": 0xCCDDEEFF, "lr.w x3, (x2)": 0x8899AABB, "lr.w.aq.rl x3, (x2)": 0x8899AABB,
	} {
		at := uint32(data)
		if n := strings.Index(line, "("); line[n-1] >= '1' && line[n-1] <= '4' {
			at += uint32(line[n-1] - '0')
		}
		stepped(t, machine(5, data), line, api.Event{Kind: api.Retired, PA: at, Load: v})
		stepped(t, user(5, data), line, api.Event{Kind: api.Retired, PA: at, Load: v})
	}
	stepped(t, machine(room), "lw x3, -4(x1)", api.Event{Kind: api.Retired, PA: room - 4, Load: 0x12345678})
	stepped(t, machine(room), "lb x3, -1(x1)", api.Event{Kind: api.Retired, PA: room - 1, Load: 0x12})
}

func TestStores(t *testing.T) { // P11.1: a write is in memory
	for _, x := range []struct {
		line string
		at   uint32
		load uint32
		word api.Pte
	}{
		{"sb x1, 0(x2)", 0, 0, wrote(data, 0x8899AA87)},
		{"sb x1, 3(x2)", 3, 0, wrote(data, 0x8799AABB)},
		{"sh x1, 2(x2)", 2, 0, wrote(data, 0xA587AABB)},
		{"sw x1, 4(x2)", 4, 0, wrote(data+4, 0xF001A587)},
		{"amoswap.w x3, x1, (x2)", 0, 0x8899AABB, wrote(data, 0xF001A587)},
		{"amoadd.w x3, x1, (x2)", 0, 0x8899AABB, wrote(data, 0x789B5042)},
		{"amoxor.w x0, x1, (x2)", 0, 0x8899AABB, wrote(data, 0x78980F3C)},
		{"amoand.w.aq x3, x1, (x2)", 0, 0x8899AABB, wrote(data, 0x8001A083)},
		{"amoor.w x3, x1, (x2)", 0, 0x8899AABB, wrote(data, 0xF899AFBF)},
		{"amomin.w x3, x1, (x2)", 0, 0x8899AABB, wrote(data, 0x8899AABB)},
		{"amomax.w x3, x1, (x2)", 0, 0x8899AABB, wrote(data, 0xF001A587)},
		{"amominu.w x2, x1, (x2)", 0, 0x8899AABB, wrote(data, 0x8899AABB)},
		{"amomaxu.w x3, x1, (x2)", 0, 0x8899AABB, wrote(data, 0xF001A587)},
	} {
		want := api.Event{Kind: api.Retired, PA: data + x.at, Load: x.load}
		stepped(t, machine(0xF001A587, data), x.line, want, x.word)
		stepped(t, user(0xF001A587, data), x.line, want, x.word)
	}
	stepped(t, machine(5, data), "sc.w x3, x1, (x2)", api.Event{Kind: api.Retired, PA: data})
	stepped(t, machine(room, 6), "sw x2, -4(x1)", api.Event{Kind: api.Retired, PA: room - 4}, wrote(room-4, 6))
}

func TestTraps(t *testing.T) { // P11.1: each trap names its cause, and nothing is read or written
	for _, x := range []struct {
		line        string
		cause, tval uint32
		pa          uint32
	}{
		{"ebreak", api.Breakpoint, 0, 0},
		{"jal x1, 6", api.InstMisaligned, begin + 6, 0},
		{"jalr x1, 2(x2)", api.InstMisaligned, data + 2, 0},
		{"bne x0, x1, -2", api.InstMisaligned, begin - 2, 0},
		{"csrrw x0, 0xf14, x0", api.Illegal, 0xF1401073, 0},
		{"csrrs x3, 0x345, x0", api.Illegal, 0x345021F3, 0},
		{"csrrsi x3, 0xf14, 1", api.Illegal, 0xF140E1F3, 0},
		{"lh x3, 1(x2)", api.LoadMisaligned, data + 1, 0},
		{"lw x3, 2(x2)", api.LoadMisaligned, data + 2, 0},
		{"lr.w x3, (x1)", api.LoadMisaligned, 5, 0},
		{"sh x3, 1(x2)", api.StoreMisaligned, data + 1, 0},
		{"sw x3, 2(x2)", api.StoreMisaligned, data + 2, 0},
		{"sc.w x3, x1, (x1)", api.StoreMisaligned, 5, 0},
		{"amoadd.w x3, x1, (x1)", api.StoreMisaligned, 5, 0},
		{"lb x3, 0(x4)", api.LoadAccess, room, room},
		{"lw x3, 0(x4)", api.LoadAccess, room, room},
		{"lw x3, -4(x0)", api.LoadAccess, 0xFFFFFFFC, 0xFFFFFFFC},
		{"lr.w x3, (x4)", api.LoadAccess, room, room},
		{"sb x3, 0(x4)", api.StoreAccess, room, room},
		{"sw x3, -4(x0)", api.StoreAccess, 0xFFFFFFFC, 0xFFFFFFFC},
		{"sc.w x3, x1, (x4)", api.StoreAccess, room, room},
		{"amoadd.w x3, x1, (x4)", api.StoreAccess, room, room},
		{"lw x3, 0(x5)", api.LoadAccess, bell + 16, bell + 16},
		{"sw x3, 0(x5)", api.StoreAccess, bell + 16, bell + 16},
		{"lw x3, -20(x5)", api.LoadAccess, bell - 4, bell - 4},
		{"lb x3, -16(x5)", api.LoadAccess, bell, bell},
		{"lhu x3, -14(x5)", api.LoadAccess, bell + 2, bell + 2},
		{"lr.w x3, (x6)", api.LoadAccess, bell, bell},
		{"sb x3, -16(x5)", api.StoreAccess, bell, bell},
		{"sh x3, -16(x5)", api.StoreAccess, bell, bell},
		{"sc.w x3, x1, (x6)", api.StoreAccess, bell, bell},
		{"amoor.w x3, x1, (x6)", api.StoreAccess, bell, bell},
	} {
		regs := []uint32{5, data, 0, room, bell + 16, bell}
		want := api.Event{Kind: api.Trapped, Cause: x.cause, Tval: x.tval, PA: x.pa}
		stepped(t, machine(regs...), x.line, want)
		stepped(t, user(regs...), x.line, want)
	}
}

func TestModes(t *testing.T) { // P11.1: what User may not, and what is no instruction
	stepped(t, machine(), "ecall", api.Event{Kind: api.Trapped, Cause: api.EcallMachine})
	stepped(t, user(), "ecall", api.Event{Kind: api.Trapped, Cause: api.EcallUser})
	for _, line := range []string{"mret", "wfi", "sfence.vma x1, x2", "csrrs x3, 0x344, x0", "csrrw x3, 0x340, x1", "csrrs x3, 0xf14, x0"} {
		stepped(t, user(), line, api.Event{Kind: api.Trapped, Cause: api.Illegal, Tval: code(t, line)[0]})
	}
	for _, s := range []seat{machine(), user()} {
		for _, w := range []uint32{0, 0xFFFFFFFF, 0x00002063, 0x00003003, 0x2800202F} {
			steppedWord(t, s, w, api.Event{Kind: api.Trapped, Cause: api.Illegal, Tval: w})
		}
	}
}

func TestNoWord(t *testing.T) { // P11.1: where no word is read FAt is 0, and only At takes time
	for _, pc := range []uint32{room, 0x80000000, 0xFFFFFFFC, bell} {
		for _, s := range []seat{machine(), user()} {
			s.pc = pc
			m := taken(t, image{}, s)
			does(t, m, 0, api.Event{Kind: api.Trapped, PC: pc, FPA: pc, Cause: api.InstAccess, Tval: pc, At: m.Now() + 1})
		}
	}
	s := machine()
	s.pc = room - 4
	m := taken(t, image{}, s)
	does(t, m, 0, api.Event{Kind: api.Trapped, PC: room - 4, FPA: room - 4, Cause: api.Illegal, FAt: m.Now() + 1, At: m.Now() + 2})
}

func TestWritesOwnWay(t *testing.T) { // P11.1: a step sees what the steps ahead of it wrote, as its word too
	m := taken(t, lines(t, "sw x1, 4(x2)", "ebreak"), machine(0x00500193, begin))
	m.Run(0, 0)
	if h := m.Hart(0); h.X(3) != 5 || h.PC() != begin+8 {
		t.Error(h.X(3), h.PC())
	}
}
