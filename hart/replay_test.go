package hart_test

import (
	"math"
	"testing"

	"corral/alu"
	"corral/api"
	"corral/hart"
	"corral/isa"
)

// numbers is values at and beside the edges of what registers have.
func numbers() []uint32 {
	return []uint32{0, 1, 2, 5, 31, 32, 0x7FFFFFFF, 0x80000000, 0xFFFFFFFB, ones}
}

// encoded is the word of an instruction.
func encoded(t *testing.T, i api.Inst) uint32 {
	t.Helper()
	w, err := isa.Encode(i)
	if err != nil {
		t.Fatal(i, err)
	}
	return w
}

// instruction is op with x3 as Rd, x1 as Rs1, x2 as Rs2, and imm, where it uses them.
func instruction(op int, imm uint32) api.Inst {
	i := api.Inst{Op: op}
	rd, rs1, rs2, has := isa.Uses(op)
	if rd {
		i.Rd = 3
	}
	if rs1 {
		i.Rs1 = 1
	}
	if rs2 {
		i.Rs2 = 2
	}
	if has {
		i.Imm = imm
	}
	return i
}

func TestReckons(t *testing.T) { // P10.2: all that reckon
	for _, op := range isa.Ops() {
		if isa.Kind(op) != 1 {
			continue
		}
		i := instruction(op, 12)
		if op == api.Lui || op == api.Auipc {
			i.Imm = 0xABCDE000
		}
		for n, a := range numbers() {
			b := numbers()[(n+3)%len(numbers())]
			h := machine(map[int]uint32{1: a, 2: b, 3: 0x33}).make(t)
			v, _ := alu.Result(i, 0x100, a, b)
			does(t, h, retired(h, encoded(t, i)), none, free{}, 3, v)
		}
	}
}

func TestReckonsNumbers(t *testing.T) { // P10.2: by hand
	for _, x := range []struct {
		line string
		rd   int
		v    uint32
	}{
		{"addi x3, x1, -7", 3, 0xFFFFFFFE}, {"sub x3, x1, x2", 3, 2}, {"sub x3, x2, x1", 3, 0xFFFFFFFE},
		{"lui x3, 524288", 3, 0x80000000}, {"auipc x3, 16", 3, 0x10100},
		{"divu x3, x1, x0", 3, ones}, {"mulhu x3, x4, x4", 3, 0xFFFFFFFE}, {"sra x3, x4, x1", 3, ones},
		{"add x1, x1, x1", 1, 10}, {"add x2, x1, x2", 2, 8}, {"add x0, x1, x2", 0, 0}, {"addi x0, x0, 5", 0, 0}, {"lui x31, 1", 31, 0x1000},
	} {
		for _, s := range []start{machine(nil), user(nil)} {
			s.x = map[int]uint32{1: 5, 2: 3, 3: 0x33, 4: ones}
			h := s.make(t)
			does(t, h, retired(h, code(t, x.line)), none, free{}, x.rd, x.v)
		}
	}
}

func TestJumps(t *testing.T) { // P10.2
	for _, x := range []struct {
		line  string
		to    uint32
		rd    int
		x1    uint32
		traps bool
	}{
		{"jal x3, 8", 0x108, 3, 0, false}, {"jal x3, -256", 0, 3, 0, false}, {"jal x3, -260", 0xFFFFFFFC, 3, 0, false}, {"jal x0, 0", 0x100, 0, 0, false},
		{"jal x3, 2", 0x102, 3, 0, true}, {"jal x3, 6", 0x106, 3, 0, true}, {"jal x0, -2", 0xFE, 0, 0, true}, {"jal x3, -258", 0xFFFFFFFE, 3, 0, true},
		{"jalr x3, 4(x1)", 0x1004, 3, 0x1000, false}, {"jalr x3, 5(x1)", 0x1004, 3, 0x1000, false}, {"jalr x1, 0(x1)", 0x2000, 1, 0x2001, false},
		{"jalr x0, -4(x1)", 0xFFFFFFFC, 0, 0, false}, {"jalr x0, 1(x1)", 0, 0, ones, false},
		{"jalr x3, 2(x1)", 0x1002, 3, 0x1000, true}, {"jalr x3, 3(x1)", 0x1002, 3, 0x1000, true}, {"jalr x1, -1(x1)", 0x1FFE, 1, 0x1FFF, true}, {"jalr x0, 0(x1)", 0xFFFFFFFE, 0, ones, true},
	} {
		h := machine(map[int]uint32{1: x.x1, 3: 0x33}).make(t)
		w := code(t, x.line)
		if x.traps {
			refuses(t, h, retired(h, w))
			traps(t, h, trapped(h, w, api.InstMisaligned, x.to))
			continue
		}
		refuses(t, h, trapped(h, w, api.InstMisaligned, x.to))
		takes(t, h, retired(h, w), none, free{}, func(s *state) {
			s.x[x.rd], s.x[0] = 0x104, 0
			s.pc = x.to
		})
	}
}

func TestBranches(t *testing.T) { // P10.2: each, taken and not, to places that may be and that may not
	for op := api.Beq; op <= api.Bgeu; op++ {
		for _, imm := range []uint32{8, 2, 6, 0xFFFFFFF0, 0xFFFFFFF2, 0, 4} {
			for n, a := range numbers() {
				for _, b := range []uint32{a, numbers()[(n+1)%len(numbers())]} {
					checkBranch(t, instruction(op, imm), a, b)
				}
			}
		}
	}
}

func checkBranch(t *testing.T, i api.Inst, a, b uint32) {
	t.Helper()
	signed := []bool{a == b, a != b, int32(a) < int32(b), int32(a) >= int32(b), a < b, a >= b}
	taken := signed[i.Op-api.Beq]
	h := machine(map[int]uint32{1: a, 2: b}).make(t)
	w := encoded(t, i)
	to := 0x100 + i.Imm
	if taken && to%4 != 0 {
		refuses(t, h, retired(h, w))
		traps(t, h, trapped(h, w, api.InstMisaligned, to))
		return
	}
	if !taken {
		to = 0x104
	}
	refuses(t, h, trapped(h, w, api.InstMisaligned, 0x100+i.Imm))
	takes(t, h, retired(h, w), none, free{}, func(s *state) { s.pc = to })
}

func TestLoads(t *testing.T) { // P10.2
	for _, x := range []struct {
		line    string
		pa      uint32
		size    int
		load, v uint32
		rd      int
	}{
		{"lb x3, 5(x1)", 0x2005, 1, 0x80, 0xFFFFFF80, 3}, {"lb x3, 4(x1)", 0x2004, 1, 0x7F, 0x7F, 3}, {"lbu x3, 7(x1)", 0x2007, 1, 0x80, 0x80, 3},
		{"lh x3, 6(x1)", 0x2006, 2, 0x8001, 0xFFFF8001, 3}, {"lhu x3, -2(x1)", 0x1FFE, 2, 0x8001, 0x8001, 3}, {"lh x3, 0(x1)", 0x2000, 2, 0x7FFF, 0x7FFF, 3},
		{"lw x3, 0(x1)", 0x2000, 4, 0xDEADBEEF, 0xDEADBEEF, 3}, {"lw x1, 4(x1)", 0x2004, 4, 1, 1, 1}, {"lw x0, 4(x1)", 0x2004, 4, 1, 0, 0}, {"lb x0, 4(x1)", 0x2004, 1, 0xFF, 0, 0},
		{"lr.w x3, (x1)", 0x2000, 4, 0x80000000, 0x80000000, 3}, {"lr.w.aq.rl x1, (x1)", 0x2000, 4, 8, 8, 1}, {"lr.w x0, (x1)", 0x2000, 4, 8, 0, 0},
		{"lw x3, -4(x2)", 0xFFFC, 4, 7, 7, 3}, {"lh x3, -2(x2)", 0xFFFE, 2, 7, 7, 3}, {"lb x3, -1(x2)", 0xFFFF, 1, 7, 7, 3},
		{"lw x3, 0(x4)", 0x40000000, 4, 0, 0, 3}, {"lw x3, 12(x4)", 0x4000000C, 4, 1, 1, 3}, {"lw x3, 4(x4)", 0x40000004, 4, 0x12345678, 0x12345678, 3},
	} {
		for _, s := range []start{machine(nil), user(nil)} {
			s.x = map[int]uint32{1: 0x2000, 2: room, 3: 0x33, 4: 0x40000000}
			h := s.make(t)
			e := retired(h, code(t, x.line))
			e.PA, e.Load = x.pa, x.load
			may := free{load: uint32(1<<(8*x.size) - 1)}
			does(t, h, e, hart.Effect{Kind: api.Read, Addr: x.pa, Size: x.size}, may, x.rd, x.v)
		}
	}
}

func TestStores(t *testing.T) { // P10.2
	for _, x := range []struct {
		line  string
		pa    uint32
		size  int
		value uint32
	}{
		{"sb x3, 5(x1)", 0x2005, 1, 0xC9}, {"sh x3, 6(x1)", 0x2006, 2, 0x88C9}, {"sw x3, -4(x1)", 0x1FFC, 4, 0x777788C9}, {"sw x0, 0(x1)", 0x2000, 4, 0}, {"sh x1, 0(x1)", 0x2000, 2, 0x2000},
		{"sb x3, -1(x2)", 0xFFFF, 1, 0xC9}, {"sh x3, -2(x2)", 0xFFFE, 2, 0x88C9}, {"sw x3, -4(x2)", 0xFFFC, 4, 0x777788C9},
		{"sw x3, 0(x4)", 0x40000000, 4, 0x777788C9}, {"sw x0, 12(x4)", 0x4000000C, 4, 0},
	} {
		for _, s := range []start{machine(nil), user(nil)} {
			s.x = map[int]uint32{1: 0x2000, 2: room, 3: 0x777788C9, 4: 0x40000000}
			h := s.make(t)
			e := retired(h, code(t, x.line))
			e.PA = x.pa
			does(t, h, e, hart.Effect{Kind: api.Write, Addr: x.pa, Size: x.size, Value: x.value}, free{}, 0, 0)
		}
	}
}

func TestConditional(t *testing.T) { // P10.2: whether an Sc is done is the event's to say
	for _, x := range []struct {
		line string
		rd   int
	}{{"sc.w x3, x2, (x1)", 3}, {"sc.w.aq.rl x1, x2, (x1)", 1}, {"sc.w x2, x2, (x1)", 2}, {"sc.w x0, x2, (x1)", 0}} {
		for _, done := range []bool{true, false} {
			h := machine(map[int]uint32{1: 0xFFFC, 2: 0x87654321, 3: 0x33}).make(t)
			e := retired(h, code(t, x.line))
			e.PA, e.Done = 0xFFFC, done
			effect, v := hart.Effect{Kind: api.Write, Addr: 0xFFFC, Size: 4, Value: 0x87654321}, uint32(0)
			if !done {
				effect, v = none, 1
			}
			does(t, h, e, effect, free{done: true}, x.rd, v)
		}
	}
}

func TestBoth(t *testing.T) { // P10.2
	for _, x := range []struct {
		name  string
		value uint32
	}{
		{"amoswap.w", 0xFFFFFFF6}, {"amoadd.w", 5}, {"amoxor.w", 0xFFFFFFF9}, {"amoand.w", 6}, {"amoor.w", ones},
		{"amomin.w", 0xFFFFFFF6}, {"amomax.w", 15}, {"amominu.w", 15}, {"amomaxu.w", 0xFFFFFFF6},
	} {
		for _, form := range []struct {
			rest string
			rd   int
		}{{" x3, x2, (x1)", 3}, {" x2, x2, (x1)", 2}, {" x1, x2, (x1)", 1}, {" x0, x2, (x1)", 0}, {".aq x3, x2, (x1)", 3}, {".rl x3, x2, (x1)", 3}} {
			h := user(map[int]uint32{1: 0x2008, 2: 0xFFFFFFF6, 3: 0x33}).make(t)
			e := retired(h, code(t, x.name+form.rest))
			e.PA, e.Load = 0x2008, 15
			does(t, h, e, hart.Effect{Kind: api.Both, Addr: 0x2008, Size: 4, Value: x.value}, free{load: ones}, form.rd, 15)
		}
	}
}

// accesses is all that have to do with memory, but for Imm and registers.
func accesses() []int {
	var l []int
	for _, op := range isa.Ops() {
		if alu.Size(op) > 0 {
			l = append(l, op)
		}
	}
	return l
}

// isLoad tells whether op traps as loads do.
func isLoad(op int) bool { return op >= api.Lb && op <= api.Lhu || op == api.Lr }

func TestMisalignedAccess(t *testing.T) { // P10.2: ahead of where it lies, and of the entries
	for _, op := range accesses() {
		for _, at := range []uint32{0x2000, 0xFFFC, 0x10000, 0x40000000, 0xFFFFFFF8} {
			for off := uint32(1); off < 4; off++ {
				if off%uint32(alu.Size(op)) == 0 {
					continue
				}
				cause := uint32(6)
				if isLoad(op) {
					cause = 4
				}
				h := machine(map[int]uint32{1: at + off, 2: 7, 3: 0x33}).make(t)
				traps(t, h, trapped(h, encoded(t, instruction(op, 0)), cause, at+off))
			}
		}
	}
}

func TestImmCounts(t *testing.T) { // P10.2: the address is a and Imm, and wraps
	for op := api.Lb; op <= api.Sw; op++ {
		h := machine(map[int]uint32{1: 0xFFFFFFFC, 2: 7}).make(t)
		e := retired(h, encoded(t, instruction(op, 0x10C)))
		e.PA = 0x108
		must(t, h, e)
		if alu.Size(op) > 1 {
			h = machine(map[int]uint32{1: 0x2001, 2: 7}).make(t)
			e = retired(h, encoded(t, instruction(op, ones)))
			e.PA = 0x2000
			must(t, h, e)
		}
	}
}

func TestAccessFaults(t *testing.T) { // P10.2: past the memory, and about the doorbells
	for _, op := range accesses() {
		size := uint32(alu.Size(op))
		for _, at := range []uint32{room, room + 4, 0x3FFFFFFC, 0x40000000, 0x40000004, 0x40000008, 0x4000000C, 0x40000010, 0x40000014, 0x80000000, 0xC0000000, -size} {
			bell := at >= 0x40000000 && at < 0x40000010
			h := machine(map[int]uint32{1: at, 2: 7, 3: 0x33}).make(t)
			w := encoded(t, instruction(op, 0))
			e := trapped(h, w, 7, at)
			if isLoad(op) {
				e.Cause = 5
			}
			e.PA = at
			done := retired(h, w)
			done.PA = at
			if bell && (op == api.Lw || op == api.Sw) {
				refuses(t, h, e)
				must(t, h, done)
				continue
			}
			refuses(t, h, done)
			traps(t, h, e)
		}
	}
}

func TestBytes(t *testing.T) { // P10.2: all bytes of an access have to be there, of memories of any length
	for _, bytes := range []int{8, 9, 10, 11, 12, 16, 20, room, 1<<31 - 1, 1 << 31, 1<<32 - 1, 1 << 32, 1 << 33, math.MaxInt} {
		for _, op := range accesses() {
			size := int64(alu.Size(op))
			for _, at := range []int64{0, 4, 8, 12, int64(bytes) - 4, int64(bytes) - 2, int64(bytes) - 1, int64(bytes), int64(bytes) + 4, 1<<32 - size} {
				if at < 0 || at >= 1<<32 || at%size != 0 || at>>28 == 4 {
					continue
				}
				s := start{bytes: bytes, mode: api.Machine, x: map[int]uint32{1: uint32(at)}}
				checkThere(t, s.make(t), op, uint32(at), at+size <= int64(bytes))
			}
		}
	}
}

// checkThere holds that the access is done, or traps.
func checkThere(t *testing.T, h *hart.Hart, op int, at uint32, there bool) {
	t.Helper()
	w := encoded(t, instruction(op, 0))
	done, trap := retired(h, w), trapped(h, w, 7, at)
	if isLoad(op) {
		trap.Cause = 5
	}
	done.PA, trap.PA = at, at
	if !there {
		done, trap = trap, done
	}
	refuses(t, h, trap)
	must(t, h, done)
}

func TestFetch(t *testing.T) { // P10.2: the four bytes of the word have to be there
	nop := uint32(0x13)
	for _, bytes := range []int{math.MinInt, -4, -1, 0, 1, 3} {
		h := hart.New(0, bytes)
		refuses(t, h, retired(h, nop))
		refuses(t, h, trapped(h, nop, api.InstAccess, 0))
		traps(t, h, api.Event{Kind: api.Trapped, Cause: api.InstAccess})
	}
	for _, bytes := range []int{8, 9, 11, 12, 16, room, 1 << 32, math.MaxInt} {
		for _, pc := range []uint32{0, 4, 8, 12, uint32(bytes) &^ 3, uint32(bytes)&^3 - 4, 0x40000000, 0xFFFFFFFC} {
			for _, mode := range []int{api.User, api.Machine} {
				h := start{bytes: bytes, mode: mode, pc: pc}.make(t)
				e := api.Event{Kind: api.Trapped, PC: pc, FPA: pc, Cause: api.InstAccess, Tval: pc}
				if int64(pc)+4 > int64(bytes) {
					refuses(t, h, retired(h, nop))
					refuses(t, h, trapped(h, 1, api.InstAccess, pc))
					traps(t, h, e)
				} else {
					refuses(t, h, e)
					does(t, h, retired(h, nop), none, free{}, 0, 0)
				}
			}
		}
	}
}

func TestNoInstruction(t *testing.T) { // P10.2
	for _, w := range []uint32{0, ones, 0x7F, 1, 0x30300073, 0x1010202F} {
		for _, s := range []start{machine(nil), user(nil)} {
			h := s.make(t)
			refuses(t, h, retired(h, w))
			refuses(t, h, trapped(h, w, api.Illegal, w^4))
			traps(t, h, trapped(h, w, api.Illegal, w))
		}
	}
}

func TestFences(t *testing.T) { // P10.2
	for _, s := range []start{machine(nil), user(nil)} {
		for imm := range uint32(256) {
			h := s.make(t)
			e := retired(h, encoded(t, api.Inst{Op: api.Fence, Imm: imm}))
			does(t, h, e, hart.Effect{Kind: api.Barrier, Value: imm}, free{}, 0, 0)
		}
		h := s.make(t)
		does(t, h, retired(h, 0x100F), hart.Effect{FenceI: true}, free{}, 0, 0)
	}
}

func TestCalls(t *testing.T) { // P10.2
	for _, x := range []struct {
		line          string
		user, machine uint32
	}{{"ecall", 8, 11}, {"ebreak", 3, 3}} {
		w := code(t, x.line)
		for _, enabled := range []bool{false, true} {
			s := machine(nil)
			s.enabled = enabled
			h := s.make(t)
			refuses(t, h, retired(h, w))
			traps(t, h, trapped(h, w, x.machine, 0))
			s.mode = api.User
			h = s.make(t)
			refuses(t, h, retired(h, w))
			traps(t, h, trapped(h, w, x.user, 0))
		}
	}
}

func TestMachineAlone(t *testing.T) { // P10.2
	for _, x := range []struct {
		line string
		want hart.Effect
	}{{"wfi", hart.Effect{Wait: true}}, {"sfence.vma x0, x0", hart.Effect{Sfence: true}}, {"sfence.vma x1, x2", hart.Effect{Sfence: true}}} {
		w := code(t, x.line)
		h := machine(nil).make(t)
		refuses(t, h, trapped(h, w, api.Illegal, w))
		does(t, h, retired(h, w), x.want, free{}, 0, 0)
		h = user(nil).make(t)
		refuses(t, h, retired(h, w))
		traps(t, h, trapped(h, w, api.Illegal, w))
	}
}

func TestMret(t *testing.T) { // P10.2
	w := code(t, "mret")
	for _, status := range []uint32{0, 8, 0x80, 0x88, 0x1800, 0x1808, 0x1880, 0x1888} {
		for _, to := range []uint32{0, 0x100, 0x104, 0xFFFFFFFC} {
			h := machine(nil).make(t)
			h.Set(api.Mstatus, status)
			h.Set(api.Mepc, to)
			refuses(t, h, trapped(h, w, api.Illegal, w))
			takes(t, h, retired(h, w), none, free{}, func(s *state) { s.pc = s.f.Return() })
			if h.PC() != to || (h.Mode() == api.Machine) != (status >= 0x1800) {
				t.Error(h.PC(), h.Mode())
			}
		}
	}
	h := user(nil).make(t)
	refuses(t, h, retired(h, w))
	traps(t, h, trapped(h, w, api.Illegal, w))
}

func TestTrapsRemember(t *testing.T) { // P10.2: from where, and where to
	for _, s := range []start{machine(nil), user(nil)} {
		s.pc = 0x1234
		h := s.make(t)
		must(t, h, trapped(h, 0xFFFFFFF0, api.Illegal, 0xFFFFFFF0))
		all := h.All()
		if h.PC() != vec || h.Mode() != api.Machine || all[5] != 0x1234 || all[6] != 2 || all[7] != 0xFFFFFFF0 || all[1]>>11 != uint32(s.mode) {
			t.Error(h.PC(), all)
		}
	}
}

func TestKinds(t *testing.T) { // P10.2: what is no kind, and the event that has nothing
	for _, kind := range []int{math.MinInt, -1, 0, 4, 5, 1 << 32, 1<<32 + 1, math.MaxInt} {
		h := machine(nil).make(t)
		e := retired(h, 0x13)
		e.Kind = kind
		refuses(t, h, e)
		refuses(t, hart.New(0, room), api.Event{Kind: kind})
		// Of what leads to no step not even the kind is a match.
		refuses(t, paged(t, api.User), api.Event{Kind: kind, PC: 0x3000})
	}
}
