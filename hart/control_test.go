package hart_test

import (
	"slices"
	"testing"

	"corral/api"
	"corral/hart"
)

// controls is the numbers of the registers of control, and some that are none.
func controls() []int {
	return []int{0x180, 0x300, 0x304, 0x305, 0x340, 0x341, 0x342, 0x343, 0x344, 0xF14, 0, 0x123, 0x181, 0x345, 0xF13, 0xFFF}
}

// csrWord is the word of an instruction on register n: what its field Rs1 has is a register, or the number itself.
func csrWord(op, rd, n, field int) uint32 {
	f3 := uint32(op-api.Csrrw) + 1
	if op >= api.Csrrwi {
		f3 = uint32(op-api.Csrrwi) + 5
	}
	return 0x73 | f3<<12 | uint32(n)<<20 | uint32(field)<<15 | uint32(rd)<<7
}

// csrWants is what register n is to be set to, and whether it is set at all.
func csrWants(op, field int, a, old uint32) (uint32, bool) {
	if op >= api.Csrrwi {
		a = uint32(field)
		op -= 3
	}
	switch op {
	case api.Csrrw:
		return a, true
	case api.Csrrs:
		return old | a, field != 0
	}
	return old &^ a, field != 0
}

func TestControl(t *testing.T) { // P10.2: all six, at all registers, with and without something to write
	for op := api.Csrrw; op <= api.Csrrci; op++ {
		for _, n := range controls() {
			for _, field := range []int{0, 1, 2, 31} {
				for _, rd := range []int{0, 3, field} {
					checkControl(t, op, n, field, rd)
				}
			}
		}
	}
}

// full is a hart whose registers of control are not 0; x2 is 0.
func full(t *testing.T) *hart.Hart {
	s := machine(map[int]uint32{1: 0x801018A5, 3: 0x33, 31: ones})
	s.satp, s.mie, s.enabled = 0x80155555, 8, true
	return s.make(t)
}

func checkControl(t *testing.T, op, n, field, rd int) {
	t.Helper()
	w := csrWord(op, rd, n, field)
	h := full(t)
	place := slices.Index(controls()[:10], n)
	if place < 0 || n == api.Mhartid && (op == api.Csrrw || op == api.Csrrwi || field != 0) {
		refuses(t, h, retired(h, w))
		traps(t, h, trapped(h, w, api.Illegal, w))
		return
	}
	refuses(t, h, trapped(h, w, api.Illegal, w))
	old, may := h.All()[place], free{}
	if n == api.Mip {
		may.load = 8
	}
	v, set := csrWants(op, field, h.X(field), old)
	takes(t, h, retired(h, w), none, may, func(s *state) {
		if set {
			s.f.Set(n, v)
		}
		s.x[rd], s.x[0] = old, 0
		s.pc += 4
	})
}

func TestControlOfUser(t *testing.T) { // P10.2: none of them
	for op := api.Csrrw; op <= api.Csrrci; op++ {
		for _, n := range controls() {
			for _, field := range []int{0, 1} {
				h := user(map[int]uint32{1: 8}).make(t)
				w := csrWord(op, 3, n, field)
				refuses(t, h, retired(h, w))
				e := trapped(h, w, api.Illegal, w)
				e.Load = 8
				refuses(t, h, e)
				e.Load = 0
				traps(t, h, e)
			}
		}
	}
}

func TestControlBits(t *testing.T) { // P10.2: by hand
	for _, x := range []struct {
		line     string
		rd, then uint32
	}{
		{"csrrw x3, 0x340, x1", 0x5C5C5C5C, 0x0F0F}, {"csrrs x3, 0x340, x1", 0x5C5C5C5C, 0x5C5C5F5F}, {"csrrc x3, 0x340, x1", 0x5C5C5C5C, 0x5C5C5050},
		{"csrrwi x3, 0x340, 31", 0x5C5C5C5C, 31}, {"csrrsi x3, 0x340, 3", 0x5C5C5C5C, 0x5C5C5C5F}, {"csrrci x3, 0x340, 28", 0x5C5C5C5C, 0x5C5C5C40},
		{"csrrw x3, 0x340, x0", 0x5C5C5C5C, 0}, {"csrrwi x3, 0x340, 0", 0x5C5C5C5C, 0}, {"csrrc x3, 0x340, x0", 0x5C5C5C5C, 0x5C5C5C5C}, {"csrrsi x3, 0x340, 0", 0x5C5C5C5C, 0x5C5C5C5C},
		{"csrrw x3, 0x340, x3", 0x5C5C5C5C, 0x33}, {"csrrs x0, 0x340, x1", 0, 0x5C5C5F5F},
	} {
		h := machine(map[int]uint32{1: 0x0F0F, 3: 0x33}).make(t)
		must(t, h, retired(h, code(t, x.line)))
		rd := 3
		if x.rd == 0 {
			rd = 0
		}
		if v, _ := h.Get(api.Mscratch); v != x.then || h.X(rd) != x.rd {
			t.Errorf("%s: %x %x", x.line, v, h.X(rd))
		}
	}
}

func TestMip(t *testing.T) { // P10.2: the event's Load tells it, whatever the bell was
	for op := api.Csrrw; op <= api.Csrrci; op++ {
		for _, field := range []int{0, 1, 31} {
			for _, rd := range []int{0, 3} {
				for _, was := range []bool{false, true} {
					for _, load := range []uint32{0, 8} {
						h := full(t)
						h.Bell(was)
						e := retired(h, csrWord(op, rd, api.Mip, field))
						e.Load = load
						takes(t, h, e, none, free{load: 8}, func(s *state) {
							s.f.Bell(load == 8)
							s.x[rd], s.x[0] = load, 0
							s.pc += 4
						})
						if h.All()[8] != load {
							t.Error(h.All())
						}
					}
				}
			}
		}
	}
}

func TestInterrupts(t *testing.T) { // P10.2: wherever Mie and Mstatus let them, whether the bell was rung or not
	for _, mode := range []int{api.User, api.Machine} {
		for _, mie := range []uint32{0, 8} {
			for _, enabled := range []bool{false, true} {
				for _, rung := range []bool{false, true} {
					h := start{bytes: room, mode: mode, pc: 0x1004, mie: mie, enabled: enabled, x: map[int]uint32{1: 7}}.make(t)
					h.Bell(rung)
					checkInterrupt(t, h, mie == 8 && (mode == api.User || enabled))
				}
			}
		}
	}
}

func checkInterrupt(t *testing.T, h *hart.Hart, may bool) {
	t.Helper()
	e := api.Event{Kind: api.Interrupted, PC: 0x1004, Cause: 0x80000003}
	for _, w := range []uint32{1, 0x13, ones} {
		x := e
		x.Word = w
		refuses(t, h, x)
	}
	x := e
	x.FPA = 0x1004
	refuses(t, h, x)
	if !may {
		refuses(t, h, e)
		return
	}
	takes(t, h, e, none, free{}, func(s *state) {
		s.f.Bell(true)
		s.pc = s.f.Trap(0x80000003, 0, 0x1004)
	})
	all := h.All()
	if h.PC() != vec || h.Mode() != api.Machine || all[5] != 0x1004 || all[6] != 0x80000003 || all[7] != 0 || all[8] != 8 {
		t.Error(h.PC(), all)
	}
	// In the trap no other one may come.
	refuses(t, h, api.Event{Kind: api.Interrupted, PC: vec, Cause: 0x80000003})
}

func TestInterruptAheadOfFetch(t *testing.T) { // P10.2: where no instruction can be fetched, too
	h := start{bytes: 8, mode: api.User, pc: 0x40000000, mie: 8}.make(t)
	takes(t, h.Clone(), api.Event{Kind: api.Interrupted, PC: 0x40000000, Cause: 0x80000003}, none, free{}, func(s *state) {
		s.f.Bell(true)
		s.pc = s.f.Trap(0x80000003, 0, 0x40000000)
	})
	// That one may come does not ask for it: the step may be done as well.
	h.Bell(true)
	traps(t, h, api.Event{Kind: api.Trapped, PC: 0x40000000, FPA: 0x40000000, Cause: api.InstAccess, Tval: 0x40000000})
}
