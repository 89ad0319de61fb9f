package seq_test

import (
	"testing"

	"corral/api"
	"corral/isa"
	"corral/pte"
)

// picks is numbers without a pattern, the same at each run.
type picks uint64

// below is the next one, less than n.
func (p *picks) below(n int) int {
	*p = *p*6364136223846793005 + 1442695040888963407
	return int(uint64(*p)>>33) % n
}

// one is one of these.
func (p *picks) one(l ...uint32) uint32 { return l[p.below(len(l))] }

// inst is some instruction: those that harts meet by are picked more often. Its address is in x1 to x8, what it reckons comes into others.
func (p *picks) inst(t *testing.T) uint32 {
	often := []int{api.Lr, api.Sc, api.Sc, api.Lw, api.Sw, api.Sw, api.Sb, api.AmoAdd, api.Mret, api.Csrrs}
	op := 1 + p.below(api.Maxu)
	if p.below(2) == 0 {
		op = often[p.below(len(often))]
	}
	rd, rs1, rs2, imm := isa.Uses(op)
	i := api.Inst{Op: op}
	if rd {
		i.Rd = p.below(4) + 8
	}
	if rs1 {
		i.Rs1 = 1 + p.below(8)
	}
	if rs2 {
		i.Rs2 = p.below(12)
	}
	if imm {
		i.Imm = p.imm(op)
	}
	if op >= api.Csrrw && op <= api.Csrrci {
		i.CSR = int(p.one(api.Mip, api.Mip, api.Mstatus, api.Mie, api.Mscratch, api.Mepc, api.Mcause, api.Mtval, api.Mhartid, 0x123))
	}
	w, err := isa.Encode(i)
	if err != nil {
		t.Fatal(i, err)
	}
	return w
}

// imm is one that op can hold; jumps stay near.
func (p *picks) imm(op int) uint32 {
	switch kind := isa.Kind(op); {
	case op == api.Lui, op == api.Auipc:
		return uint32(p.below(16)) << 12
	case op == api.Jalr:
		return uint32(p.below(4)) * 4
	case kind == 2, kind == 3:
		return p.one(4, 8, 8, 12, 16, 0xFFFFFFF8, 2)
	case kind == 7, op >= api.Slli && op <= api.Srai:
		return p.one(0, 1, 8, 8, 31)
	}
	return p.one(0, 0, 0, 4, 4, 8, 0xFFFFFFFC, 1)
}

// seat is a hart that begins somewhere in the code, its registers at places where the harts meet.
func (p *picks) seat() seat {
	s := seat{mode: int(p.one(api.User, api.Machine)), pc: begin + 4*uint32(p.below(64)), mie: p.one(0, 8), enabled: p.below(2) == 0}
	s.satp = p.one(paged, paged, paged, 0)
	for i := range s.x {
		s.x[i] = p.one(data, data, data, data+4, codeAt, dataAt, root, bell, bell+4, bell+8, begin+16, room-4, data+2, upper+data, 0x40000FFC, 5)
	}
	s.x[4], s.x[5] = bell+4*uint32(p.below(4)), bell+4*uint32(p.below(4))
	s.x[7] = begin + 4*uint32(p.below(64))
	return s
}

// phrase is some instructions, by which harts meet more often than by those that come one by one.
func (p *picks) phrase(t *testing.T) []uint32 {
	switch p.below(8) {
	case 0:
		return append(append(code(t, "lr.w x9, (x1)"), p.inst(t)), code(t, "sc.w x10, x2, (x1)")...)
	case 1:
		return code(t, "lr.w x9, (x2)", "sc.w x10, x9, (x2)")
	case 2:
		return code(t, "sw x5, 0(x5)", "lw x9, 0(x6)")
	case 3:
		return code(t, "csrrwi x0, 0x304, 8", "sw x5, 0(x6)", "wfi")
	case 4:
		return code(t, "csrrsi x0, 0x300, 8")
	}
	return []uint32{p.inst(t)}
}

// memory is code without a pattern, and tables of all sorts.
func (p *picks) memory(t *testing.T) image {
	m := tables(image{})
	for i := uint32(0); i < 96; {
		l := p.phrase(t)
		m.put(begin+4*i, l...)
		i += uint32(len(l))
	}
	for i := range uint32(16) {
		m.put(vector+4*i, p.inst(t))
	}
	// Most traps are answered: the bells are stopped, or not, and it goes on.
	m.put(vector+4*uint32(p.below(4)), code(t, "lui x12, 262144", "sw x0, 0(x12)", "sw x0, 4(x12)", "csrrs x13, 0x341, x0", "addi x13, x13, 4", "csrrw x0, 0x341, x13", "mret")...)
	for i := range uint32(16) {
		m.put(table+4*i, p.leaf(i, rwxu))
	}
	m.put(dataAt, p.one(p.leaf(2, rwxu), p.leaf(2, rwxu), p.leaf(2, pte.V|pte.R|pte.U), p.leaf(16, rwxu), p.leaf(1<<20, rwxu), 0))
	m.put(codeAt, p.one(p.leaf(1, rwxu), p.leaf(1, rwxu), p.leaf(1, rwxu), p.leaf(1, rwxu&^pte.X)))
	m.put(upperAt, p.one(p.leaf(0, rwxu), p.leaf(0, rwxu&^pte.U), p.leaf(1, rwxu)))
	return m
}

// leaf is an entry of that page with these rights; whether it is marked is picked.
func (p *picks) leaf(page, rights uint32) uint32 {
	return pte.Make(page, rights, uint32(p.below(4))*pte.A)
}

func TestRuns(t *testing.T) { // P11.1, P11.2, P11.3: each hart's events are a run, and what they read is what was written last
	var all counts
	for n := range 400 {
		p := picks(n)
		m := p.memory(t)
		m.put(0, code(t, starts()...)...)
		harts := 1 + p.below(api.MaxHarts)
		for h := range harts {
			m.put(seats+uint32(h)*128, p.seat().words()...)
		}
		w := watch(t, made(t, harts, room, m[:]...), harts)
		for h := range harts {
			for range starts() {
				w.step(h)
			}
		}
		for range 200 {
			w.step(p.below(harts+2) - 1)
		}
		all.add(w.seen)
	}
	all.check(t)
}
