package hart

import (
	"slices"

	"corral/alu"
	"corral/api"
	"corral/isa"
	"corral/pte"
	"corral/walk"
	"corral/word"
)

// The kinds of instructions, as package isa numbers them.
const (
	reckons  = 1
	jumps    = 2
	branches = 3
	loads    = 4
	stores   = 5
	both     = 6
)

// none is the kind of an event that can not be: what was read leads to no step.
const none = 0

const (
	wordBytes = 4
	byteBits  = 8
	bellBit   = 8 // of Mip, the one that it has
)

// step is one step on its way: of the event that is told (read) it takes what the hart can not know, which is what was read; what the event has to be then (want) grows beside it. Its Kind stays none where it is no step.
type step struct {
	hart   Hart
	read   api.Event
	want   api.Event
	effect Effect
}

// run is the whole step.
func (s *step) run() {
	if s.read.Kind == api.Interrupted {
		s.interrupt()
		return
	}
	s.fetch()
}

// interrupt is taken wherever the hart lets it: that the bell was rung is the event's to say.
func (s *step) interrupt() {
	s.hart.Bell(true)
	if cause, is := s.hart.Pending(); is {
		s.trap(cause, 0)
		s.want.Kind = api.Interrupted
	}
}

// fetch reads the word, and does its instruction.
func (s *step) fetch() {
	pc := s.hart.pc
	if pc%wordBytes != 0 {
		s.trap(api.InstMisaligned, pc)
		return
	}
	s.want.FWalk = s.read.FWalk
	pa, here := s.place(pc, api.Fetch, s.read.FWalk)
	if !here {
		return
	}
	s.want.FPA = pa
	if !s.hart.has(pa, wordBytes) {
		s.trap(api.InstAccess, pc)
		return
	}
	s.want.Word = s.read.Word
	i, is := isa.Decode(s.read.Word)
	if !is {
		s.illegal()
		return
	}
	s.do(i)
}

// place is where va lies by these entries; false where it traps, or where they are not those that are asked for.
func (s *step) place(va uint32, access int, entries []api.Pte) (uint32, bool) {
	at := s.hart.walk(va, access, entries)
	if at.Kind == walk.Fault {
		s.trap(at.Cause, va)
	}
	return at.PA, at.Kind == walk.Here
}

// walk is what comes of all entries; nothing, if one of them was not the next to be asked for.
func (h *Hart) walk(va uint32, access int, entries []api.Pte) walk.Step {
	satp, mode := h.Satp(), h.Mode()
	for n, e := range entries {
		asked := walk.Next(satp, mode, va, access, h.bytes, entries[:n]...)
		if asked.Kind != walk.More || asked.Addr != e.Addr {
			return walk.Step{}
		}
	}
	return walk.Next(satp, mode, va, access, h.bytes, entries...)
}

// do is the instruction itself.
func (s *step) do(i api.Inst) {
	a, b := s.hart.X(i.Rs1), s.hart.X(i.Rs2)
	switch isa.Kind(i.Op) {
	case reckons, jumps, branches:
		s.reckon(i, a, b)
	case loads, stores, both:
		s.access(i, a, b)
	default:
		s.govern(i, a)
	}
}

// reckon is what goes without memory and registers of control.
func (s *step) reckon(i api.Inst, a, b uint32) {
	pc := s.hart.pc
	next := alu.Next(i, pc, a, b)
	// What does not jump goes on four bytes further, and so never comes here.
	if next%wordBytes != 0 {
		s.trap(api.InstMisaligned, next)
		return
	}
	// A branch has no result; its Rd is x0, that takes none.
	v, _ := alu.Result(i, pc, a, b)
	s.hart.put(i.Rd, v)
	s.retire(Effect{})
	s.hart.pc = next
}

// access is what has to do with memory, as far as its place.
func (s *step) access(i api.Inst, a, b uint32) {
	sort, misaligned := api.Store, uint32(api.StoreMisaligned)
	if isa.Kind(i.Op) == loads {
		sort, misaligned = api.Load, api.LoadMisaligned
	}
	addr, size := a+i.Imm, alu.Size(i.Op)
	if addr%uint32(size) != 0 {
		s.trap(misaligned, addr)
		return
	}
	s.want.Walk = s.read.Walk
	pa, here := s.place(addr, sort, s.read.Walk)
	if !here {
		return
	}
	s.want.PA = pa
	if !s.hart.has(pa, size) && !rings(i.Op, pa) {
		s.trap(pte.Cause(sort, false), addr)
		return
	}
	s.move(i, b, Effect{Addr: pa, Size: size})
}

// rings tells whether op may go to a doorbell, and one is at pa.
func rings(op int, pa uint32) bool {
	return (op == api.Lw || op == api.Sw) && pa >= api.Doorbell && pa < api.Doorbell+wordBytes*api.MaxHarts
}

// move is what goes between the register and that place.
func (s *step) move(i api.Inst, b uint32, at Effect) {
	switch kind := isa.Kind(i.Op); {
	case kind == loads:
		at.Kind = api.Read
		s.hart.put(i.Rd, alu.Extend(i.Op, s.load(at.Size)))
	case kind == stores:
		at.Kind, at.Value = api.Write, alu.Cut(i.Op, b)
	case i.Op == api.Sc:
		at = s.conditional(i, b, at)
	default:
		old := s.load(at.Size)
		at.Kind = api.Both
		at.Value, _ = alu.Amo(i.Op, old, b)
		s.hart.put(i.Rd, alu.Extend(i.Op, old))
	}
	s.retire(at)
}

// load is what the event says was read: it has no more bytes than were asked for.
func (s *step) load(size int) uint32 {
	s.want.Load = word.Bits(s.read.Load, 0, byteBits*size)
	return s.want.Load
}

// conditional is an Sc: whether it was done is the event's to say.
func (s *step) conditional(i api.Inst, b uint32, at Effect) Effect {
	s.want.Done = s.read.Done
	if !s.read.Done {
		s.hart.put(i.Rd, 1)
		return Effect{}
	}
	s.hart.put(i.Rd, 0)
	at.Kind, at.Value = api.Write, alu.Cut(i.Op, b)
	return at
}

// govern is what has to do with order, modes and registers of control.
func (s *step) govern(i api.Inst, a uint32) {
	switch i.Op {
	case api.Fence:
		s.retire(Effect{Kind: api.Barrier, Value: i.Imm})
	case api.FenceI:
		s.retire(Effect{FenceI: true})
	case api.Ecall:
		s.trap(callCause(s.hart.Mode()), 0)
	case api.Ebreak:
		s.trap(api.Breakpoint, 0)
	case api.Mret, api.Wfi, api.Sfence:
		s.rule(i.Op)
	default:
		s.control(i, a)
	}
}

// callCause is why an Ecall of that mode traps.
func callCause(mode int) uint32 {
	if mode == api.User {
		return api.EcallUser
	}
	return api.EcallMachine
}

// rule is what User may not do.
func (s *step) rule(op int) {
	switch {
	case s.hart.Mode() == api.User:
		s.illegal()
	case op == api.Mret:
		s.retire(Effect{})
		s.hart.pc = s.hart.Return()
	case op == api.Wfi:
		s.retire(Effect{Wait: true})
	default:
		s.retire(Effect{Sfence: true})
	}
}

// control reads and writes a register of control.
func (s *step) control(i api.Inst, a uint32) {
	old, is := s.hart.Get(i.CSR)
	if !is || i.CSR == api.Mhartid && writes(i) {
		s.illegal()
		return
	}
	if i.CSR == api.Mip {
		// Others ring the bell: what it was is the event's to say.
		old = s.read.Load & bellBit
		s.want.Load = old
		s.hart.Bell(old != 0)
	}
	if writes(i) {
		s.hart.Set(i.CSR, becomes(i, old, a))
	}
	s.hart.put(i.Rd, old)
	s.retire(Effect{})
}

// writes tells whether i writes its register of control: by its fields, whatever the register Rs1 has.
func writes(i api.Inst) bool {
	return i.Op == api.Csrrw || i.Op == api.Csrrwi || i.Rs1 != 0 || i.Imm != 0
}

// becomes is what i writes into a register of control that was old.
func becomes(i api.Inst, old, a uint32) uint32 {
	switch i.Op {
	case api.Csrrwi:
		return i.Imm
	case api.Csrrs:
		return old | a
	case api.Csrrsi:
		return old | i.Imm
	case api.Csrrc:
		return old &^ a
	case api.Csrrci:
		return old &^ i.Imm
	}
	return a
}

// illegal is the trap of a word that may not be done.
func (s *step) illegal() { s.trap(api.Illegal, s.read.Word) }

// trap ends a step that is not done.
func (s *step) trap(cause, tval uint32) {
	s.want.Kind, s.want.Cause, s.want.Tval = api.Trapped, cause, tval
	s.hart.pc = s.hart.Trap(cause, tval, s.hart.pc)
}

// retire ends a step that is done; it goes on behind it, unless the instruction says otherwise.
func (s *step) retire(effect Effect) {
	s.want.Kind, s.effect = api.Retired, effect
	s.hart.pc += wordBytes
}

// same tells whether e is as it has to be, but for its times: of the entries want has those of e, or none.
func same(e, want api.Event) bool {
	return e.Kind == want.Kind && e.PC == want.PC && e.Word == want.Word &&
		e.FPA == want.FPA && e.PA == want.PA && e.Load == want.Load &&
		e.Cause == want.Cause && e.Tval == want.Tval && e.Done == want.Done &&
		slices.Equal(e.FWalk, want.FWalk) && slices.Equal(e.Walk, want.Walk)
}
