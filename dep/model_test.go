package dep_test

import (
	"slices"
	"testing"

	"corral/api"
	"corral/dep"
	"corral/isa"
)

// model tells of items what the chapter says, the other way round than Ops: from an operation back to what wrote its registers, item by item.
type model struct {
	l     []dep.Item
	insts []api.Inst // Op 0: none was done
}

func modelOf(l []dep.Item) model {
	m := model{l: l}
	for _, x := range l {
		i, _ := isa.Decode(x.Word)
		if x.Trap {
			i = api.Inst{}
		}
		m.insts = append(m.insts, i)
	}
	return m
}

// among tells whether op lies from first to last.
func among(first, op, last int) bool { return first <= op && op <= last }

// kind is the kind of item n's operation, 0: none.
func (m model) kind(n int) int {
	switch op := m.insts[n].Op; {
	case among(api.Lb, op, api.Lhu), op == api.Lr:
		return api.Read
	case among(api.Sb, op, api.Sw), op == api.Sc && m.l[n].Done:
		return api.Write
	case among(api.Swap, op, api.Maxu):
		return api.Both
	case op == api.Fence:
		return api.Barrier
	}
	return 0
}

// place is how many operations lie ahead of item n.
func (m model) place(n int) int {
	count := 0
	for k := range n {
		if m.kind(k) != 0 {
			count++
		}
	}
	return count
}

// writer is the last item ahead of item n that has reg as its Rd, -1: none.
func (m model) writer(n, reg int) int {
	for k := n - 1; k >= 0; k-- {
		if rd, _, _, _ := isa.Uses(m.insts[k].Op); rd && m.insts[k].Rd == reg {
			return k
		}
	}
	return -1
}

// register is what reg hangs on when item n is come to. seen has what was gone through already.
func (m model) register(n, reg int, seen map[[2]int]int) []int {
	if _, was := seen[[2]int{n, reg}]; was || reg == 0 {
		return nil
	}
	seen[[2]int{n, reg}] = 1
	k := m.writer(n, reg)
	if k < 0 {
		return nil
	}
	i := m.insts[k]
	switch op := i.Op; {
	case m.kind(k) != 0:
		return []int{m.place(k)}
	case op == api.Sc, among(api.Lui, op, api.Jalr), among(api.Csrrw, op, api.Csrrci):
		return nil
	}
	return append(m.register(k, i.Rs1, seen), m.register(k, i.Rs2, seen)...)
}

// all is what any of these registers of item n hangs on.
func (m model) all(n int, regs ...int) []int {
	var l []int
	for _, r := range regs {
		l = append(l, m.register(n, r, map[[2]int]int{})...)
	}
	slices.Sort(l)
	return slices.Compact(l)
}

// ctrl is what branches and Jalr ahead of item n hung on.
func (m model) ctrl(n int) []int {
	var l []int
	for k, i := range m.insts[:n] {
		if among(api.Beq, i.Op, api.Bgeu) || i.Op == api.Jalr {
			l = append(l, m.all(k, i.Rs1, i.Rs2)...)
		}
	}
	slices.Sort(l)
	return slices.Compact(l)
}

// op is the operation of item n, that has one.
func (m model) op(n int) api.Op {
	x, i, kind := m.l[n], m.insts[n], m.kind(n)
	if kind == api.Barrier {
		pred := []int{0, 2, 1, 3}[i.Imm>>4&3]
		return api.Op{Kind: kind, Pred: pred, Succ: []int{0, 2, 1, 3}[i.Imm&3], Ctrl: m.ctrl(n)}
	}
	size := map[int]int{api.Lb: 1, api.Lbu: 1, api.Sb: 1, api.Lh: 2, api.Lhu: 2, api.Sh: 2}[i.Op]
	if size == 0 {
		size = 4
	}
	o := api.Op{Kind: kind, Size: size, Addr: x.PA, Paired: i.Op == api.Lr || i.Op == api.Sc, Aq: i.Aq, Rl: i.Rl}
	o.AddrDeps, o.Ctrl = m.all(n, i.Rs1), m.ctrl(n)
	if kind != api.Write {
		o.Got = x.Load
	}
	if kind != api.Read {
		o.Value = uint32(uint64(x.Value) % (1 << (8 * size)))
		o.DataDeps = m.all(n, i.Rs2)
	}
	return o
}

// check holds Ops and Places of items against the model.
func check(t *testing.T, l []dep.Item) []api.Op {
	t.Helper()
	m := modelOf(l)
	got, places := dep.Ops(l), dep.Places(l)
	if len(places) != len(l) || len(got) != m.place(len(l)) {
		t.Fatal(len(places), len(got), "of", len(l), m.place(len(l)))
	}
	for n := range l {
		if m.kind(n) == 0 {
			if places[n] != -1 {
				t.Fatal(n, places[n])
			}
			continue
		}
		if places[n] != m.place(n) {
			t.Fatal(n, places[n], "not", m.place(n))
		}
		if o, want := got[places[n]], m.op(n); !equal(o, want) {
			t.Fatalf("item %d: %+v\n not %+v\n of %+v", n, o, want, l[:n+1])
		}
	}
	return got
}

// picks is numbers without a pattern, the same at each run.
type picks uint64

// below is the next one, less than n.
func (p *picks) below(n int) int {
	*p = *p*6364136223846793005 + 1442695040888963407
	return int(uint64(*p)>>33) % n
}

// word is any number of 32 bits.
func (p *picks) word() uint32 { return uint32(p.below(1<<16))<<16 | uint32(p.below(1<<16)) }

// inst is some instruction, often one that reckons of two registers, so that sets grow; its registers are of the first few, so that they meet.
func (p *picks) inst(t *testing.T, few int) uint32 {
	t.Helper()
	i := api.Inst{Op: isa.Ops()[p.below(api.Maxu)]}
	if p.below(3) == 0 {
		i.Op = api.Add + p.below(api.And-api.Add+1)
	}
	rd, rs1, rs2, imm := isa.Uses(i.Op)
	for _, f := range []struct {
		used bool
		reg  *int
	}{{rd, &i.Rd}, {rs1, &i.Rs1}, {rs2, &i.Rs2}} {
		if f.used {
			*f.reg = p.below(few)
		}
	}
	if imm && i.Op > api.Auipc {
		i.Imm = uint32(p.below(16)) * 2
	}
	if i.Op >= api.Lr {
		i.Aq, i.Rl = p.below(2) == 0, p.below(2) == 0
	}
	w, err := isa.Encode(i)
	if err != nil {
		t.Fatal(i, err)
	}
	return w
}

// items is a list of what a hart may have done, and of what none can have.
func (p *picks) items(t *testing.T, n, few int) []dep.Item {
	t.Helper()
	var l []dep.Item
	for range n {
		x := dep.Item{Word: p.inst(t, few), PA: p.word(), Load: p.word(), Value: p.word(), Done: p.below(2) == 0, Trap: p.below(20) == 0}
		switch p.below(30) {
		case 0:
			x.Word = p.word()
		case 1:
			x.Word ^= 1 << p.below(32)
		}
		l = append(l, x)
	}
	return l
}

func TestModel(t *testing.T) { // P12.1: all instructions, in lists of all sorts, against the chapter read backwards
	p := picks(12)
	var kinds [5]int
	var deps [3]int
	for n := range 600 {
		few := []int{3, 5, 8, 12, 32}[n%5]
		for _, o := range check(t, p.items(t, n/5, few)) {
			kinds[o.Kind]++
			for i, l := range [][]int{o.AddrDeps, o.DataDeps, o.Ctrl} {
				if len(l) > 1 {
					deps[i]++
				}
			}
		}
	}
	if slices.Min(kinds[1:]) < 100 || slices.Min(deps[:]) < 100 {
		t.Error("the lists have too little in them", kinds, deps)
	}
}

func TestBeginnings(t *testing.T) { // P12.1: what comes behind an operation does not change it
	p := picks(1)
	for range 20 {
		l := p.items(t, 40, 6)
		whole, places := dep.Ops(l), dep.Places(l)
		for n := range l {
			ops := dep.Ops(l[:n])
			if !slices.EqualFunc(ops, whole[:len(ops)], equal) || !slices.Equal(dep.Places(l[:n]), places[:n]) {
				t.Fatal(n, ops)
			}
		}
	}
}

func FuzzOps(f *testing.F) { // P12.1, P0.1
	f.Add([]byte{0x83, 0x20, 0x01, 0x00, 0x00, 0x23, 0xA0, 0x11, 0x00, 0x01})
	f.Fuzz(func(t *testing.T, b []byte) {
		var l []dep.Item
		for ; len(b) >= 5 && len(l) < 100; b = b[5:] {
			w := uint32(b[0]) | uint32(b[1])<<8 | uint32(b[2])<<16 | uint32(b[3])<<24
			l = append(l, dep.Item{Word: w, PA: ^w, Load: w * 3, Value: w * 5, Done: b[4]&1 != 0, Trap: b[4]&6 == 6})
		}
		check(t, l)
	})
}
