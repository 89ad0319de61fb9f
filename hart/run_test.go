package hart_test

import (
	"slices"
	"testing"

	"corral/alu"
	"corral/api"
	"corral/csr"
	"corral/hart"
	"corral/isa"
	"corral/pte"
	"corral/walk"
)

// picks is numbers without a pattern, the same at each run.
type picks uint64

// below is the next one, less than n.
func (p *picks) below(n int) int {
	*p = *p*6364136223846793005 + 1442695040888963407
	return int(uint64(*p)>>33) % n
}

// word is a number, often one at an edge.
func (p *picks) word() uint32 {
	switch p.below(4) {
	case 0:
		return numbers()[p.below(len(numbers()))]
	case 1:
		return uint32(p.below(room))
	}
	return uint32(p.below(1<<16))<<16 | uint32(p.below(1<<16))
}

// runner is a hart that makes its own events: it goes the other way round than Replay, from what is read to what is told.
type runner struct {
	f     csr.File
	pc    uint32
	x     [32]uint32
	bytes int
	p     picks
}

// entries reads what a walk asks for, until it comes to an end; what has to be marked is.
func (m *runner) entries(va uint32, access int) ([]api.Pte, walk.Step) {
	var l []api.Pte
	for {
		s := walk.Next(m.f.Satp(), m.f.Mode(), va, access, m.bytes, l...)
		switch s.Kind {
		case walk.More:
			l = append(l, api.Pte{Addr: s.Addr, Value: m.entry(1 - len(l))})
		case walk.Mark:
			l[len(l)-1].Value = s.Value
		default:
			return l, s
		}
	}
}

// entry is one that may be in a table of that level: most often one that leads on.
func (m *runner) entry(level int) uint32 {
	switch m.p.below(10) {
	case 0:
		return m.p.word()
	case 1:
		return pte.Make(uint32(m.p.below(16)), v, u, uint32(m.p.below(256)))
	case 2:
		return pte.Make(0, v, r, w, x, u, uint32(m.p.below(256)))
	}
	if level == 1 {
		return pte.Make(uint32(m.p.below(16)), v)
	}
	return pte.Make(uint32(m.p.below(17)), v, r, w, x, u)
}

// inst is some instruction, whose registers are few, so that they meet; Mret often, so that User comes about.
func (m *runner) inst(t *testing.T) uint32 {
	switch m.p.below(20) {
	case 0:
		return m.p.word()
	case 1:
		return 0x30200073
	}
	i := instruction(1+m.p.below(api.Maxu), 0)
	for _, r := range []*int{&i.Rd, &i.Rs1, &i.Rs2} {
		if *r > 0 {
			*r = m.p.below(4)
		}
	}
	if i.Op >= api.Csrrw && i.Op <= api.Csrrci {
		i.CSR = controls()[m.p.below(len(controls()))]
	}
	if _, _, _, has := isa.Uses(i.Op); has {
		i.Imm = m.imm(i.Op)
	}
	return encoded(t, i)
}

// imm is one that op can hold, most often a multiple of four.
func (m *runner) imm(op int) uint32 {
	n := uint32(m.p.below(32))
	switch {
	case op == api.Lui, op == api.Auipc:
		return n << 12
	case isa.Kind(op) > 6, op >= api.Slli && op <= api.Srai:
		return n
	case m.p.below(8) == 0:
		return n*4 - 62
	}
	return n * 4
}

// trap ends an event.
func (m *runner) trap(e api.Event, cause, tval uint32) api.Event {
	e.Kind, e.Cause, e.Tval = api.Trapped, cause, tval
	m.pc = m.f.Trap(cause, tval, m.pc)
	return e
}

// next is the next event, and its effect.
func (m *runner) next(t *testing.T) (api.Event, hart.Effect) {
	e := api.Event{PC: m.pc}
	if rung := m.f; m.p.below(10) == 0 {
		rung.Bell(true)
		if cause, is := rung.Pending(); is {
			m.f = rung
			e = m.trap(e, cause, 0)
			e.Kind = api.Interrupted
			return e, none
		}
	}
	l, s := m.entries(m.pc, api.Fetch)
	e.FWalk, e.FPA = l, s.PA
	if s.Kind == walk.Fault {
		return m.trap(e, s.Cause, m.pc), none
	}
	if int64(s.PA)+4 > int64(m.bytes) {
		return m.trap(e, api.InstAccess, m.pc), none
	}
	e.Word = m.inst(t)
	i, is := isa.Decode(e.Word)
	if !is {
		return m.trap(e, api.Illegal, e.Word), none
	}
	if alu.Size(i.Op) > 0 {
		return m.access(e, i)
	}
	return m.other(e, i)
}

// access is an event of an instruction that has to do with memory.
func (m *runner) access(e api.Event, i api.Inst) (api.Event, hart.Effect) {
	sort, causes := api.Store, [2]uint32{6, 7}
	if isLoad(i.Op) {
		sort, causes = api.Load, [2]uint32{4, 5}
	}
	at, size := m.x[i.Rs1]+i.Imm, alu.Size(i.Op)
	if at%uint32(size) > 0 {
		return m.trap(e, causes[0], at), none
	}
	l, s := m.entries(at, sort)
	e.Walk, e.PA = l, s.PA
	if s.Kind == walk.Fault {
		return m.trap(e, s.Cause, at), none
	}
	bell := s.PA/16 == 0x4000000 && (i.Op == api.Lw || i.Op == api.Sw)
	if int64(s.PA)+int64(size) > int64(m.bytes) && !bell {
		return m.trap(e, causes[1], at), none
	}
	e.Kind = api.Retired
	m.pc += 4
	effect := hart.Effect{Addr: s.PA, Size: size}
	b := m.x[i.Rs2]
	switch {
	case isLoad(i.Op):
		effect.Kind = api.Read
		e.Load = uint32(uint64(m.p.word()) % (1 << (8 * size)))
		m.x[i.Rd] = alu.Extend(i.Op, e.Load)
	case i.Op <= api.Sw:
		effect.Kind, effect.Value = api.Write, alu.Cut(i.Op, b)
	case i.Op == api.Sc && m.p.below(2) == 0:
		effect.Kind, effect.Value, e.Done = api.Write, b, true
		m.x[i.Rd] = 0
	case i.Op == api.Sc:
		effect = none
		m.x[i.Rd] = 1
	default:
		e.Load = m.p.word()
		effect.Kind = api.Both
		effect.Value, _ = alu.Amo(i.Op, e.Load, b)
		m.x[i.Rd] = e.Load
	}
	m.x[0] = 0
	return e, effect
}

// other is an event of an instruction that has not.
func (m *runner) other(e api.Event, i api.Inst) (api.Event, hart.Effect) {
	user := m.f.Mode() == api.User
	to := alu.Next(i, m.pc, m.x[i.Rs1], m.x[i.Rs2])
	var effect hart.Effect
	switch i.Op {
	case api.Ecall:
		return m.trap(e, 8+uint32(m.f.Mode()), 0), none
	case api.Ebreak:
		return m.trap(e, 3, 0), none
	case api.Fence:
		effect = hart.Effect{Kind: api.Barrier, Value: i.Imm}
	case api.FenceI:
		effect.FenceI = true
	case api.Mret, api.Wfi, api.Sfence:
		if user {
			return m.trap(e, 2, e.Word), none
		}
		effect.Wait, effect.Sfence = i.Op == api.Wfi, i.Op == api.Sfence
		if i.Op == api.Mret {
			to = m.f.Return()
		}
	case api.Csrrw, api.Csrrs, api.Csrrc, api.Csrrwi, api.Csrrsi, api.Csrrci:
		if !m.control(&e, i) {
			return m.trap(e, 2, e.Word), none
		}
	default:
		if to%4 != 0 {
			return m.trap(e, 0, to), none
		}
		if v, is := alu.Result(i, m.pc, m.x[i.Rs1], m.x[i.Rs2]); is {
			m.x[i.Rd] = v
		}
	}
	e.Kind = api.Retired
	m.x[0] = 0
	m.pc = to
	return e, effect
}

// control is what a Csr does; false where it may not.
func (m *runner) control(e *api.Event, i api.Inst) bool {
	field := i.Rs1 + int(i.Imm)
	old, is := m.f.Get(i.CSR)
	if is && i.CSR == api.Mip {
		old = uint32(m.p.below(2)) * 8
		m.f.Bell(old > 0)
		e.Load = old
	}
	v, set := csrWants(i.Op, field, m.x[i.Rs1], old)
	if !is || set && !m.f.Set(i.CSR, v) {
		return false
	}
	m.x[i.Rd] = old
	return true
}

// reached is how often what came about in the runs.
type reached struct {
	kinds  [4]int
	causes [16]int
	ops    [api.Maxu + 1]int
	user   int
}

func (c *reached) count(e api.Event, mode int) {
	c.kinds[e.Kind]++
	if e.Kind == api.Trapped {
		c.causes[e.Cause]++
	}
	i, _ := isa.Decode(e.Word)
	if e.Kind == api.Retired || i.Op == api.Ecall || i.Op == api.Ebreak {
		c.ops[i.Op]++
	}
	if mode == api.User {
		c.user++
	}
}

// toUser is both in User, with pages, if they are not; the runs go back to Machine by themselves.
func toUser(h *hart.Hart, m *runner) {
	for _, f := range []*csr.File{&h.File, &m.f} {
		f.Set(api.Satp, root)
		f.Set(api.Mtvec, vec)
		f.Set(api.Mie, 8)
		if f.Set(api.Mstatus, 0) {
			f.Return()
		}
	}
}

func TestRuns(t *testing.T) { // P10.2, P10.3: event by event, each once wrong and once right
	var c reached
	for n := range 200 {
		bytes := []int{room, room, 1 << 32, 0x9000}[n%4]
		h, m := hart.New(n, bytes), &runner{f: csr.New(n), bytes: bytes, p: picks(n)}
		for i := range 300 {
			if i%20 == 10 {
				toUser(h, m)
			}
			mode := m.f.Mode()
			e, effect := m.next(t)
			c.count(e, mode)
			l := spoiled(e, free{load: ones, done: true})
			refuses(t, h, l[m.p.below(len(l))])
			f, err := h.Replay(e)
			if want := (state{f: m.f, pc: m.pc, x: m.x}); f != effect || err != nil || look(h) != want {
				t.Fatalf("%d: %+v: %+v %v, not %+v; %+v, not %+v", n, e, f, err, effect, look(h), want)
			}
		}
	}
	c.check(t)
}

// check holds that the runs came to everything there is.
func (c *reached) check(t *testing.T) {
	t.Helper()
	if slices.Contains(c.kinds[1:], 0) || slices.Contains(c.ops[1:], 0) || c.user < 5000 {
		t.Error("not all kinds, instructions or modes came about", c)
	}
	for _, cause := range []int{0, 1, 2, 3, 4, 5, 6, 7, 8, 11, 12, 13, 15} {
		if c.causes[cause] == 0 {
			t.Error("a cause that never came about", cause)
		}
	}
}
