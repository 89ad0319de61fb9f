package dep_test

import (
	"slices"
	"strconv"
	"strings"
	"testing"

	"corral/api"
	"corral/dep"
)

func TestExamples(t *testing.T) { // P12.1
	holds(t, items(t, "lw x1, 0(x2)", "sw x1, 0(x3)"),
		api.Op{Kind: api.Read, Size: 4}, api.Op{Kind: api.Write, Size: 4, DataDeps: on(0)})
	holds(t, items(t, "lw x1, 0(x2)", "beq x1, x0, 8", "sw x4, 0(x3)"),
		api.Op{Kind: api.Read, Size: 4}, api.Op{Kind: api.Write, Size: 4, Ctrl: on(0)})
}

func TestNothing(t *testing.T) { // P12.1, P0.4: nil and the empty list are the same
	for _, l := range [][]dep.Item{nil, {}, make([]dep.Item, 0, 8)} {
		if ops, places := dep.Ops(l), dep.Places(l); len(ops)+len(places) != 0 {
			t.Error(ops, places)
		}
	}
}

// full is an item of which each field tells something.
func full(t *testing.T, line string, wrote bool) dep.Item {
	t.Helper()
	return dep.Item{Word: word(t, line), PA: 0x89ABCDEF, Load: 0x8899AABB, Value: 0xCCDDEEFF, Done: wrote}
}

func TestOperations(t *testing.T) { // P12.1: what each instruction that has one does to memory, whatever Done says
	at := uint32(0x89ABCDEF)
	read, write := uint32(0x8899AABB), uint32(0xCCDDEEFF)
	for line, want := range map[string]api.Op{
		"lb x1, 0(x2)":                 {Kind: api.Read, Size: 1, Addr: at, Got: read},
		"lbu x1, 0(x2)":                {Kind: api.Read, Size: 1, Addr: at, Got: read},
		"lh x0, -2(x2)":                {Kind: api.Read, Size: 2, Addr: at, Got: read},
		"lhu x1, 0(x2)":                {Kind: api.Read, Size: 2, Addr: at, Got: read},
		"lw x1, 4(x0)":                 {Kind: api.Read, Size: 4, Addr: at, Got: read},
		"sb x1, 0(x2)":                 {Kind: api.Write, Size: 1, Addr: at, Value: 0xFF},
		"sh x1, 0(x2)":                 {Kind: api.Write, Size: 2, Addr: at, Value: 0xEEFF},
		"sw x0, 4(x2)":                 {Kind: api.Write, Size: 4, Addr: at, Value: write},
		"lr.w x1, (x2)":                {Kind: api.Read, Size: 4, Addr: at, Got: read, Paired: true},
		"lr.w.aq x1, (x2)":             {Kind: api.Read, Size: 4, Addr: at, Got: read, Paired: true, Aq: true},
		"lr.w.rl x1, (x2)":             {Kind: api.Read, Size: 4, Addr: at, Got: read, Paired: true, Rl: true},
		"amoswap.w x1, x3, (x2)":       {Kind: api.Both, Size: 4, Addr: at, Got: read, Value: write},
		"amoadd.w.aq x1, x3, (x2)":     {Kind: api.Both, Size: 4, Addr: at, Got: read, Value: write, Aq: true},
		"amoxor.w.rl x1, x3, (x2)":     {Kind: api.Both, Size: 4, Addr: at, Got: read, Value: write, Rl: true},
		"amoand.w.aq.rl x0, x3, (x2)":  {Kind: api.Both, Size: 4, Addr: at, Got: read, Value: write, Aq: true, Rl: true},
		"amoor.w x1, x3, (x2)":         {Kind: api.Both, Size: 4, Addr: at, Got: read, Value: write},
		"amomin.w x1, x3, (x2)":        {Kind: api.Both, Size: 4, Addr: at, Got: read, Value: write},
		"amomax.w x1, x3, (x2)":        {Kind: api.Both, Size: 4, Addr: at, Got: read, Value: write},
		"amominu.w x1, x3, (x2)":       {Kind: api.Both, Size: 4, Addr: at, Got: read, Value: write},
		"amomaxu.w.aq.rl x1, x0, (x0)": {Kind: api.Both, Size: 4, Addr: at, Got: read, Value: write, Aq: true, Rl: true},
		"fence 3, 3":                   {Kind: api.Barrier, Pred: 3, Succ: 3},
	} {
		for _, wrote := range []bool{true, false} {
			holds(t, []dep.Item{full(t, line, wrote)}, want)
			placed(t, []dep.Item{full(t, line, wrote)}, 0)
		}
	}
}

// placed holds the places of items against these.
func placed(t *testing.T, l []dep.Item, want ...int) {
	t.Helper()
	if got := dep.Places(l); !slices.Equal(got, want) {
		t.Error(got, "not", want)
	}
}

func TestConditional(t *testing.T) { // P12.1: an Sc has an operation only where it was Done
	for line, want := range map[string]api.Op{
		"sc.w x1, x3, (x2)":       {},
		"sc.w.aq x1, x3, (x2)":    {Aq: true},
		"sc.w.rl x0, x3, (x2)":    {Rl: true},
		"sc.w.aq.rl x1, x0, (x0)": {Aq: true, Rl: true},
	} {
		want.Kind, want.Size, want.Addr, want.Value, want.Paired = api.Write, 4, 0x89ABCDEF, 0xCCDDEEFF, true
		holds(t, []dep.Item{full(t, line, true)}, want)
		placed(t, []dep.Item{full(t, line, true)}, 0)
		holds(t, []dep.Item{full(t, line, false)})
		placed(t, []dep.Item{full(t, line, false)}, -1)
	}
}

func TestBarriers(t *testing.T) { // P12.1: of the bits of a Fence those of reads and writes, and no others; it has no bytes
	sorts := []int{0, 2, 1, 3} // by the lowest two bits of a side
	for pred := range 16 {
		for succ := range 16 {
			line := "fence " + strconv.Itoa(pred) + ", " + strconv.Itoa(succ)
			holds(t, []dep.Item{full(t, line, true)}, api.Op{Kind: api.Barrier, Pred: sorts[pred%4], Succ: sorts[succ%4]})
		}
	}
}

func TestNoOperation(t *testing.T) { // P12.1: others, what is no instruction, a trap and an interrupt have none
	for _, line := range []string{
		"lui x1, 1", "auipc x1, 1", "jal x1, 8", "jalr x1, 0(x2)", "beq x1, x2, 8", "bgeu x1, x2, 8", "addi x1, x2, 1", "srai x1, x2, 1",
		"add x1, x2, x3", "and x1, x2, x3", "mul x1, x2, x3", "remu x1, x2, x3", "fence.i", "ecall", "ebreak", "mret", "wfi", "sfence.vma x1, x2",
		"csrrw x1, 0x340, x2", "csrrs x1, 0x344, x2", "csrrc x1, 0x344, x2", "csrrwi x1, 0x340, 2", "csrrsi x1, 0x344, 8", "csrrci x1, 0x344, 8",
	} {
		for _, wrote := range []bool{true, false} {
			holds(t, []dep.Item{full(t, line, wrote)})
			placed(t, []dep.Item{full(t, line, wrote)}, -1)
		}
	}
	// No instruction: 0, all ones, a load and a store of no size, an operation of memory that there is not, an Lr with Rs2, a Fence with Rd, with its upper bits.
	for _, w := range []uint32{0, 0xFFFFFFFF, 0x00003003, 0x00003023, 0x2800202F, 0x1010202F, 0x0000008F, 0x1000000F} {
		l := []dep.Item{{Word: w, PA: 4, Load: 5, Value: 6, Done: true}}
		holds(t, l)
		placed(t, l, -1)
	}
	for _, line := range []string{"lw x1, 0(x2)", "sw x1, 0(x2)", "sc.w x1, x3, (x2)", "lr.w x1, (x2)", "amoadd.w x1, x3, (x2)", "fence 3, 3"} {
		x := full(t, line, true)
		x.Trap = true
		holds(t, []dep.Item{x})
		placed(t, []dep.Item{x}, -1)
	}
}

func TestPlaces(t *testing.T) { // P12.1: places count operations, not items
	l := items(t, "addi x1, x0, 1", "lw x1, 0(x2)", "sc.w x3, x1, (x2)", "sw x1, 0(x2)", "sc.w x3, x1, (x2)", "fence 0, 0", "ecall", "amoor.w x1, x1, (x2)", "lr.w x1, (x2)", "jal x0, 4")
	l[2].Done = false
	l = append(l, dep.Item{}, l[1], l[1])
	l[11].Trap = true
	placed(t, l, -1, 0, -1, 1, 2, 3, -1, 4, 5, -1, -1, -1, 6)
	if n := len(dep.Ops(l)); n != 7 {
		t.Error(n)
	}
}

// two is two loads, into x1 and x2, and these lines behind them.
func two(t *testing.T, lines ...string) []dep.Item {
	t.Helper()
	return items(t, append([]string{"lw x1, 0(x0)", "lw x2, 4(x0)"}, lines...)...)
}

func TestReckoned(t *testing.T) { // P12.1: what is reckoned hangs on what its registers hang on
	for _, name := range strings.Fields("add sub sll slt sltu xor srl sra or and mul mulh mulhsu mulhu div divu rem remu") {
		hangs(t, two(t, name+" x3, x1, x2", "sw x3, 0(x0)"), nil, on(0, 1), nil)
		hangs(t, two(t, name+" x3, x2, x1", "sw x0, 0(x3)"), on(0, 1), nil, nil)
		hangs(t, two(t, name+" x3, x2, x2", "sw x3, 0(x3)"), on(1), on(1), nil)
		hangs(t, two(t, name+" x1, x2, x0", "sw x1, 0(x1)"), on(1), on(1), nil)
		hangs(t, two(t, name+" x1, x0, x1", "sw x1, 0(x2)"), on(1), on(0), nil)
		hangs(t, two(t, name+" x1, x5, x6", "sw x1, 0(x2)"), on(1), nil, nil)
	}
	for _, name := range strings.Fields("addi slti sltiu xori ori andi slli srli srai") {
		hangs(t, two(t, name+" x3, x1, 2", "sw x3, 0(x2)"), on(1), on(0), nil)
		hangs(t, two(t, name+" x1, x1, 2", "sw x1, 0(x2)"), on(1), on(0), nil)
		hangs(t, two(t, name+" x1, x0, 2", "sw x1, 0(x2)"), on(1), nil, nil)
	}
	// The field of Rs2 is a part of Imm here, 1 and 2, and no register.
	hangs(t, two(t, "addi x3, x0, 1", "sw x3, 0(x0)"), nil, nil, nil)
	hangs(t, two(t, "slli x3, x1, 2", "sw x3, 0(x0)"), nil, on(0), nil)
}

func TestHangsOnNothing(t *testing.T) { // P12.1: Lui, Auipc, Jal, Jalr and the Csr ones: none, whatever Rd hung on, and Rs1
	// Imm of Lui and Auipc has 2 where others have Rs1, and 1 where they have Rs2.
	for _, line := range []string{
		"lui x1, 272", "auipc x1, 272", "jal x1, 8", "csrrw x1, 0x340, x2", "csrrs x1, 0x340, x1", "csrrc x1, 0x344, x2",
		"csrrwi x1, 0x340, 2", "csrrsi x1, 0x340, 2", "csrrci x1, 0x344, 2",
	} {
		hangs(t, two(t, line, "sw x1, 0(x2)"), on(1), nil, nil)
		hangs(t, two(t, line, "sw x2, 0(x1)"), nil, on(1), nil)
	}
	hangs(t, two(t, "jalr x1, 0(x2)", "sw x1, 0(x1)"), nil, nil, on(1))
	hangs(t, two(t, "jalr x1, 0(x1)", "sw x1, 0(x1)"), nil, nil, on(0))
}

func TestOwnOperation(t *testing.T) { // P12.1: what is read hangs on its own operation alone
	for _, line := range []string{
		"lb x3, 0(x1)", "lh x3, 0(x1)", "lw x3, 0(x1)", "lbu x3, 0(x1)", "lhu x3, 0(x1)", "lr.w x3, (x1)", "sc.w x3, x2, (x1)",
		"amoswap.w x3, x2, (x1)", "amoadd.w x3, x2, (x1)", "amoxor.w x3, x2, (x1)", "amoand.w x3, x2, (x1)", "amoor.w x3, x2, (x1)",
		"amomin.w x3, x2, (x1)", "amomax.w x3, x2, (x1)", "amominu.w x3, x2, (x1)", "amomaxu.w x3, x2, (x1)",
	} {
		hangs(t, two(t, line, "sw x3, 0(x3)"), on(2), on(2), nil)
	}
	// The register that it is read by is the one that it is read into: it hangs on what that one hung on before.
	hangs(t, two(t, "lw x1, 0(x1)"), on(0), nil, nil)
	hangs(t, two(t, "lw x1, 0(x1)", "lw x1, 0(x1)"), on(2), nil, nil)
	hangs(t, two(t, "amoadd.w x1, x1, (x1)"), on(0), on(0), nil)
	hangs(t, two(t, "sc.w x2, x2, (x1)"), on(0), on(1), nil)
	hangs(t, two(t, "lr.w x1, (x2)"), on(1), nil, nil)
	// Places count the Barriers too.
	hangs(t, two(t, "fence 3, 3", "lw x1, 0(x0)", "sw x1, 0(x2)"), on(1), on(3), nil)
}

func TestNotDone(t *testing.T) { // P12.1: an Sc that was not Done hangs on nothing, and has no place
	l := two(t, "sc.w x1, x2, (x1)", "sw x1, 0(x2)")
	l[2].Done = false
	hangs(t, l, on(1), nil, nil)
	l = two(t, "sc.w x3, x2, (x1)", "lw x4, 0(x0)", "sw x4, 0(x3)")
	l[2].Done = false
	hangs(t, l, nil, on(2), nil)
	l = two(t, "sc.w x0, x2, (x1)", "sw x1, 0(x2)")
	l[2].Done = false
	hangs(t, l, on(1), on(0), nil)
}

func TestZero(t *testing.T) { // P12.1: x0 hangs on nothing
	for _, line := range []string{"lw x0, 0(x1)", "lr.w x0, (x1)", "sc.w x0, x1, (x2)", "amoadd.w x0, x1, (x2)", "add x0, x1, x2", "addi x0, x1, 0"} {
		hangs(t, two(t, line, "add x3, x0, x0", "sw x0, 0(x0)"), nil, nil, nil)
		hangs(t, two(t, line, "add x3, x0, x1", "sw x3, 0(x0)"), nil, on(0), nil)
		hangs(t, two(t, line, "beq x0, x0, 8", "sw x2, 0(x0)"), nil, on(1), nil)
	}
	hangs(t, items(t, "lw x31, 0(x0)", "sw x31, 0(x30)"), nil, on(0), nil)
}

func TestNoRd(t *testing.T) { // P12.1: stores, branches and fences leave all registers as they are, whatever lies where others have Rd
	for _, line := range []string{"sw x2, 1(x2)", "sb x2, 33(x2)", "fence.i", "ecall", "wfi", "mret", "sfence.vma x2, x2", "fence 1, 2"} {
		hangs(t, two(t, line, "sw x1, 0(x2)"), on(1), on(0), nil)
	}
	hangs(t, two(t, "beq x2, x2, 2048", "sw x1, 0(x2)"), on(1), on(0), on(1)) // the field has 1
}

func TestData(t *testing.T) { // P12.1: stores, Sc and both have DataDeps, no others
	for _, line := range []string{"sb x2, 0(x1)", "sh x2, 0(x1)", "sw x2, 0(x1)", "sc.w x3, x2, (x1)", "amoswap.w x3, x2, (x1)", "amomaxu.w x3, x2, (x1)"} {
		hangs(t, two(t, line), on(0), on(1), nil)
	}
	// The field of Rs2 is a part of Imm here.
	for _, line := range []string{"lb x3, 2(x1)", "lh x3, 2(x1)", "lw x3, 2(x1)", "lbu x3, 2(x1)", "lhu x3, 2(x1)", "lr.w x3, (x1)"} {
		hangs(t, two(t, line), on(0), nil, nil)
	}
}

func TestControl(t *testing.T) { // P12.1: what branches and Jalr hung on, all that are ahead
	for _, name := range strings.Fields("beq bne blt bge bltu bgeu") {
		hangs(t, two(t, name+" x1, x2, 8", "sw x0, 0(x0)"), nil, nil, on(0, 1))
		hangs(t, two(t, name+" x2, x1, 8", "lw x3, 0(x0)"), nil, nil, on(0, 1))
		hangs(t, two(t, name+" x0, x2, 8", "lr.w x3, (x0)"), nil, nil, on(1))
		hangs(t, two(t, name+" x1, x0, 8", "sc.w x3, x2, (x0)"), nil, on(1), on(0))
		hangs(t, two(t, name+" x1, x1, 8", "amoadd.w x3, x2, (x1)"), on(0), on(1), on(0))
		hangs(t, two(t, name+" x1, x1, 8", "fence 3, 3"), nil, nil, on(0))
		hangs(t, two(t, name+" x5, x6, 8", "sw x1, 0(x2)"), on(1), on(0), nil)
	}
	hangs(t, two(t, "jalr x0, 2(x1)", "sw x0, 0(x0)"), nil, nil, on(0)) // its field of Rs2 is a part of Imm
	hangs(t, two(t, "jalr x1, 0(x1)", "jalr x0, 0(x1)", "sw x0, 0(x0)"), nil, nil, on(0))
	hangs(t, two(t, "jal x1, 8", "sw x0, 0(x0)"), nil, nil, nil)
	// They hung on it then: what the register hangs on later does not matter.
	hangs(t, two(t, "bne x1, x0, 8", "addi x1, x0, 0", "lw x0, 0(x0)"), nil, nil, on(0))
	hangs(t, two(t, "bne x5, x0, 8", "addi x5, x1, 0", "lw x0, 0(x0)"), nil, nil, nil)
	// All together, each once, rising, and it stays.
	hangs(t, two(t, "bne x2, x0, 8", "beq x1, x0, 8", "bne x2, x1, 8", "fence 0, 0", "lw x3, 0(x0)", "jalr x0, 0(x3)", "lw x4, 0(x0)"), nil, nil, on(0, 1, 3))
	// What is ahead of the branch does not hang on it.
	ops := dep.Ops(two(t, "sw x0, 0(x0)", "beq x1, x2, 8", "sw x0, 0(x0)"))
	if len(ops[1].Ctrl) != 0 || len(ops[2].Ctrl) != 0 || !slices.Equal(ops[3].Ctrl, on(0, 1)) {
		t.Error(ops)
	}
}

func TestTraps(t *testing.T) { // P12.1: a trap, an interrupt, and what is no instruction, leave all as they are
	for _, line := range []string{"lw x1, 0(x0)", "addi x1, x2, 0", "lui x1, 1", "sc.w x1, x2, (x2)", "amoadd.w x1, x2, (x2)", "beq x1, x2, 8", "jalr x1, 0(x2)", "csrrw x1, 0x340, x1", "fence 3, 3"} {
		l := two(t, line, "sw x1, 0(x2)")
		l[2].Trap = true
		hangs(t, l, on(1), on(0), nil)
		l[2].Done = false
		hangs(t, l, on(1), on(0), nil)
	}
	for _, w := range []uint32{0, 0xFFFFFFFF, 0x000130A3, 0x00013083, 0x101120AF, 0x0021A0E3} {
		l := two(t, "fence.i", "sw x1, 0(x2)")
		l[2].Word = w
		hangs(t, l, on(1), on(0), nil)
	}
}

func TestFar(t *testing.T) { // P12.1: a set goes through many registers, and grows; rising, each once
	l := items(t, "lw x1, 0(x0)", "lw x2, 0(x0)", "lw x3, 0(x0)", "lw x4, 0(x0)",
		"add x5, x4, x1", "add x6, x3, x2", "sub x7, x5, x6", "mul x8, x7, x7", "or x8, x8, x3", "sw x8, 0(x7)", "lw x9, 0(x8)", "xor x9, x9, x5", "sw x9, 0(x6)")
	hangs(t, l[:10], on(0, 1, 2, 3), on(0, 1, 2, 3), nil)
	hangs(t, l, on(1, 2), on(0, 3, 5), nil)
}

func TestMany(t *testing.T) { // P12.1: long lists
	const n = 2000
	var l []dep.Item
	var all []int
	for i := range n {
		l = append(l, items(t, "lw x1, 0(x0)", "add x2, x1, x2", "bne x1, x0, 8")...)
		all = append(all, i)
	}
	l = append(l, items(t, "sw x2, 0(x1)")...)
	hangs(t, l, on(n-1), all, all)
}
