package seq

import (
	"corral/alu"
	"corral/api"
	"corral/isa"
	"corral/pte"
	"corral/walk"
)

// The kinds of instructions, as package isa numbers them.
const (
	jumps    = 2
	branches = 3
	loads    = 4
	both     = 6
)

// step is one step on its way: the event grows by what is read, and the hart takes it at the end. Whether the instruction is done is the hart's to say; here stands only what it traps with, if it is not.
type step struct {
	machine *Machine
	self    *member
	event   api.Event
}

// run is the whole step.
func (s *step) run() {
	s.event.PC = s.self.PC()
	if cause, is := s.self.Pending(); is {
		s.trap(api.Interrupted, cause, 0)
		return
	}
	s.fetch()
}

// fetch reads the word, and does its instruction. PC is a multiple of 4: no jump, trap or return goes elsewhere.
func (s *step) fetch() {
	pc := s.event.PC
	at := s.walk(pc, api.Fetch, &s.event.FWalk)
	if at.Kind == walk.Fault {
		s.trap(api.Trapped, at.Cause, pc)
		return
	}
	s.event.FPA = at.PA
	w, is := s.machine.memory.Load(at.PA, wordBytes)
	if !is {
		s.trap(api.Trapped, api.InstAccess, pc)
		return
	}
	s.event.Word, s.event.FAt = w, s.machine.tick()
	// A word that is no instruction decodes to one that no hart does.
	i, _ := isa.Decode(w)
	if alu.Size(i.Op) > 0 {
		s.access(i)
		return
	}
	s.other(i)
}

// walk goes by the entries that memory has to where va lies, marks what has to be marked, and tells in read what it read.
func (s *step) walk(va uint32, access int, read *[]api.Pte) walk.Step {
	satp, mode, m := s.self.Satp(), s.self.Mode(), s.machine
	for {
		next := walk.Next(satp, mode, va, access, m.memory.Bytes(), *read...)
		switch next.Kind {
		case walk.More:
			*read = append(*read, api.Pte{Addr: next.Addr, Value: m.read(next.Addr, wordBytes), At: m.tick()})
		case walk.Mark:
			// What has to be marked is read and marked at once, at one time.
			e := &(*read)[len(*read)-1]
			e.Old, e.Value, e.Wrote = e.Value, next.Value, true
			m.write(s.self, e.Addr, wordBytes, e.Value)
		default:
			return next
		}
	}
}

// access is an instruction that has to do with memory.
func (s *step) access(i api.Inst) {
	kind := isa.Kind(i.Op)
	sort, misaligned := api.Store, uint32(api.StoreMisaligned)
	if kind == loads {
		sort, misaligned = api.Load, api.LoadMisaligned
	}
	addr, size := s.self.X(i.Rs1)+i.Imm, alu.Size(i.Op)
	if addr%uint32(size) != 0 {
		s.trap(api.Trapped, misaligned, addr)
		return
	}
	at := s.walk(addr, sort, &s.event.Walk)
	if at.Kind == walk.Fault {
		s.trap(api.Trapped, at.Cause, addr)
		return
	}
	s.event.PA = at.PA
	switch {
	case i.Op == api.Sc:
		s.event.Done = s.self.reserved && s.self.lr == at.PA
	case kind == loads, kind == both:
		s.event.Load = s.machine.read(at.PA, size)
	}
	s.do(i, pte.Cause(sort, false), addr)
}

// other is an instruction that has nothing to do with memory, or a word that is none.
func (s *step) other(i api.Inst) {
	if i.CSR == api.Mip {
		// User may not look, and then the instruction is not done.
		s.event.Load, _ = s.self.Get(api.Mip)
	}
	switch kind := isa.Kind(i.Op); {
	case i.Op == api.Ebreak:
		s.do(i, api.Breakpoint, 0)
	case i.Op == api.Ecall && s.self.Mode() == api.User:
		s.do(i, api.EcallUser, 0)
	case i.Op == api.Ecall:
		s.do(i, api.EcallMachine, 0)
	case kind == jumps, kind == branches:
		s.do(i, api.InstMisaligned, alu.Next(i, s.event.PC, s.self.X(i.Rs1), s.self.X(i.Rs2)))
	default:
		s.do(i, api.Illegal, s.event.Word)
	}
}

// do is the instruction, if the hart takes it as done; else it traps so.
func (s *step) do(i api.Inst, cause, tval uint32) {
	s.event.Kind = api.Retired
	effect, err := s.self.Replay(s.event)
	if err != nil {
		s.trap(api.Trapped, cause, tval)
		return
	}
	switch i.Op {
	case api.Lr:
		s.self.reserved, s.self.lr = true, s.event.PA
	case api.Sc, api.Mret:
		s.self.reserved = false
	case api.Wfi:
		s.self.waits = !s.self.called()
	}
	if effect.Kind == api.Write || effect.Kind == api.Both {
		s.machine.write(s.self, effect.Addr, effect.Size, effect.Value)
	}
}

// trap ends a step that is not done: of the access nothing was read.
func (s *step) trap(kind int, cause, tval uint32) {
	s.event.Kind, s.event.Cause, s.event.Tval = kind, cause, tval
	s.event.Load, s.event.Done = 0, false
	s.self.Replay(s.event)
	s.self.reserved = false
}
