package hart_test

import (
	"slices"
	"testing"

	"corral/api"
	"corral/asm"
	"corral/csr"
	"corral/hart"
)

const (
	ones = 0xFFFFFFFF
	room = 65536
	vec  = 0x80 // where traps go
)

// none is no effect.
var none hart.Effect

// code is the word of a line.
func code(t *testing.T, line string) uint32 {
	t.Helper()
	l, err := asm.Program(line)
	if err != nil {
		t.Fatal(line, err)
	}
	return l[0]
}

// start is how a hart is when a test begins; of satp, and whether interrupts may come, what is told.
type start struct {
	bytes, mode int
	pc          uint32
	x           map[int]uint32
	satp        uint32
	mie         uint32
	enabled     bool
}

// machine and user are harts at 0x100 with these registers.
func machine(x map[int]uint32) start {
	return start{bytes: room, mode: api.Machine, pc: 0x100, x: x}
}

func user(x map[int]uint32) start {
	return start{bytes: room, mode: api.User, pc: 0x100, x: x}
}

// must is an event that the hart takes.
func must(t *testing.T, h *hart.Hart, e api.Event) hart.Effect {
	t.Helper()
	f, err := h.Replay(e)
	if err != nil {
		t.Fatalf("%+v: %v", e, err)
	}
	return f
}

// jump is the hart at pc, in that mode, by an Mret that has to be in memory.
func jump(t *testing.T, h *hart.Hart, mode int, pc uint32, enabled bool) {
	t.Helper()
	status := uint32(mode) << 11
	if enabled {
		status |= 0x80
	}
	h.Set(api.Mstatus, status)
	h.Set(api.Mepc, pc)
	must(t, h, retired(h, 0x30200073))
}

// make is such a hart. It has eight bytes of memory at least: it fills its registers from Mscratch.
func (s start) make(t *testing.T) *hart.Hart {
	t.Helper()
	h := hart.New(3, s.bytes)
	for r, v := range s.x {
		h.Set(api.Mscratch, v)
		must(t, h, retired(h, 0x34002073|uint32(r)<<7))
		jump(t, h, api.Machine, 0, false)
	}
	h.Set(api.Mscratch, 0x5C5C5C5C)
	h.Set(api.Mtvec, vec)
	h.Set(api.Mcause, 0x77)
	h.Set(api.Mtval, 0x99)
	h.Set(api.Satp, s.satp)
	h.Set(api.Mie, s.mie)
	jump(t, h, s.mode, s.pc, s.enabled)
	if h.PC() != s.pc || h.Mode() != s.mode {
		t.Fatal(h.PC(), h.Mode())
	}
	return h
}

// retired and trapped are events of a word that lies at PC.
func retired(h *hart.Hart, w uint32) api.Event {
	return api.Event{Kind: api.Retired, PC: h.PC(), Word: w, FPA: h.PC()}
}

func trapped(h *hart.Hart, w, cause, tval uint32) api.Event {
	return api.Event{Kind: api.Trapped, PC: h.PC(), Word: w, FPA: h.PC(), Cause: cause, Tval: tval}
}

// state is all that can be told of a hart.
type state struct {
	f  csr.File
	pc uint32
	x  [32]uint32
}

func look(h *hart.Hart) state {
	s := state{f: h.File, pc: h.PC()}
	for i := range s.x {
		s.x[i] = h.X(i)
	}
	return s
}

// free is what of an event is the event's to say: bits of Load, and Done.
type free struct {
	load uint32
	done bool
}

// spoiled is the event with one field else, in all ways that are not free.
func spoiled(e api.Event, may free) []api.Event {
	var l []api.Event
	for kind := -1; kind <= 5; kind++ {
		if kind != e.Kind {
			x := e
			x.Kind = kind
			l = append(l, x)
		}
	}
	for i := range 32 {
		bit := uint32(1) << i
		a, b, c, d, f := e, e, e, e, e
		a.PC ^= bit
		b.FPA ^= bit
		c.PA ^= bit
		d.Cause ^= bit
		f.Tval ^= bit
		l = append(l, a, b, c, d, f)
		if may.load&bit == 0 {
			x := e
			x.Load ^= bit
			l = append(l, x)
		}
	}
	if !may.done {
		x := e
		x.Done = !e.Done
		l = append(l, x)
	}
	for _, entries := range spoiledWalks(e.FWalk) {
		x := e
		x.FWalk = entries
		l = append(l, x)
	}
	for _, entries := range spoiledWalks(e.Walk) {
		x := e
		x.Walk = entries
		l = append(l, x)
	}
	return l
}

// spoiledWalks is entries that are none to be asked for: too few, too many, elsewhere, the other way round.
func spoiledWalks(l []api.Pte) [][]api.Pte {
	out := [][]api.Pte{
		append(slices.Clone(l), api.Pte{}),
		append(slices.Clone(l), api.Pte{Addr: 0x1000, Value: 0x801}),
		append([]api.Pte{{}}, l...),
	}
	for n, e := range l {
		out = append(out, slices.Clone(l[:n]), append(slices.Clone(l), e))
		for _, bit := range []uint32{1, 2, 4, 0x1000, 1 << 31} {
			x := slices.Clone(l)
			x[n].Addr ^= bit
			out = append(out, x)
		}
	}
	if len(l) > 1 {
		back := slices.Clone(l)
		slices.Reverse(back)
		out = append(out, back)
	}
	return out
}

// refuses holds that the event is no step, and that nothing is changed by it.
func refuses(t *testing.T, h *hart.Hart, e api.Event) {
	t.Helper()
	was := look(h)
	if f, err := h.Replay(e); err != api.ErrTrace || f != none {
		t.Errorf("taken: %+v: %+v %v", e, f, err)
	}
	if look(h) != was {
		t.Errorf("changed: %+v: %+v, not %+v", e, look(h), was)
	}
}

// stamped is the event with other times, and with other things of the entries that are not looked at.
func stamped(e api.Event) api.Event {
	e.FAt, e.At = -5, 1<<40
	e.FWalk, e.Walk = slices.Clone(e.FWalk), slices.Clone(e.Walk)
	for _, l := range [][]api.Pte{e.FWalk, e.Walk} {
		for n := range l {
			l[n].At, l[n].Old, l[n].Wrote = 9-n, 0xABCD, !l[n].Wrote
		}
	}
	return e
}

// takes holds that the event is the next step, with that effect, and that the hart is then as want makes it of what it was; and that no event is which has one field else.
func takes(t *testing.T, h *hart.Hart, e api.Event, effect hart.Effect, may free, want func(s *state)) {
	t.Helper()
	s := look(h)
	want(&s)
	for _, x := range spoiled(e, may) {
		refuses(t, h, x)
	}
	for _, x := range []api.Event{stamped(e), e} {
		one := h.Clone()
		f, err := one.Replay(x)
		if f != effect || err != nil {
			t.Errorf("%+v: %+v %v, not %+v", x, f, err, effect)
		}
		if look(one) != s {
			t.Errorf("%+v: %+v, not %+v", x, look(one), s)
		}
	}
	h.Replay(e)
}

// traps holds that the event is the next step, and a trap.
func traps(t *testing.T, h *hart.Hart, e api.Event) {
	t.Helper()
	takes(t, h, e, none, free{}, func(s *state) { s.pc = s.f.Trap(e.Cause, e.Tval, e.PC) })
}

// does holds that the event is the next step, and that it puts v into register rd, and goes on behind it.
func does(t *testing.T, h *hart.Hart, e api.Event, effect hart.Effect, may free, rd int, v uint32) {
	t.Helper()
	takes(t, h, e, effect, may, func(s *state) {
		s.x[rd] = v
		s.x[0] = 0
		s.pc += 4
	})
}
