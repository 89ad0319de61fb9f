package asm_test

import (
	"errors"
	"fmt"
	"math"
	"regexp"
	"slices"
	"strconv"
	"strings"
	"testing"

	"corral/api"
	"corral/asm"
	"corral/isa"
)

const ones = 0xFFFFFFFF

// told is how the chapter says that i is written, which has to have a word.
func told(i api.Inst) string {
	s := isa.Name(i.Op)
	if i.Aq {
		s += ".aq"
	}
	if i.Rl {
		s += ".rl"
	}
	imm := int32(i.Imm)
	switch op := i.Op; {
	case op <= api.Auipc:
		return s + fmt.Sprintf(" x%d, %d", i.Rd, i.Imm>>12)
	case op == api.Jal:
		return s + fmt.Sprintf(" x%d, %d", i.Rd, imm)
	case op == api.Jalr, api.Lb <= op && op <= api.Lhu:
		return s + fmt.Sprintf(" x%d, %d(x%d)", i.Rd, imm, i.Rs1)
	case op <= api.Bgeu:
		return s + fmt.Sprintf(" x%d, x%d, %d", i.Rs1, i.Rs2, imm)
	case op <= api.Sw:
		return s + fmt.Sprintf(" x%d, %d(x%d)", i.Rs2, imm, i.Rs1)
	case op <= api.Srai:
		return s + fmt.Sprintf(" x%d, x%d, %d", i.Rd, i.Rs1, imm)
	case op <= api.And, api.Mul <= op && op <= api.Remu:
		return s + fmt.Sprintf(" x%d, x%d, x%d", i.Rd, i.Rs1, i.Rs2)
	case op == api.Fence:
		return s + fmt.Sprintf(" %d, %d", i.Imm/16, i.Imm%16)
	case op <= api.Wfi:
		return s
	case op == api.Sfence:
		return s + fmt.Sprintf(" x%d, x%d", i.Rs1, i.Rs2)
	case op <= api.Csrrc:
		return s + fmt.Sprintf(" x%d, 0x%03x, x%d", i.Rd, i.CSR, i.Rs1)
	case op <= api.Csrrci:
		return s + fmt.Sprintf(" x%d, 0x%03x, %d", i.Rd, i.CSR, i.Imm)
	case op == api.Lr:
		return s + fmt.Sprintf(" x%d, (x%d)", i.Rd, i.Rs1)
	}
	return s + fmt.Sprintf(" x%d, x%d, (x%d)", i.Rd, i.Rs2, i.Rs1)
}

// insts is instructions of op: each field at its edges, one by one and all together.
func insts(op int) []api.Inst {
	l := []api.Inst{{Op: op}, {Op: op, Aq: true}, {Op: op, Rl: true}, {Op: op, Aq: true, Rl: true}}
	for _, n := range []int{1, 9, 10, 15, 16, 30, 31} {
		l = append(l, api.Inst{Op: op, Rd: n}, api.Inst{Op: op, Rs1: n}, api.Inst{Op: op, Rs2: n})
		l = append(l, api.Inst{Op: op, Rd: n, Rs1: n ^ 1}, api.Inst{Op: op, Rd: n, Rs1: n ^ 2, Rs2: n ^ 3}, api.Inst{Op: op, Rs1: n ^ 1, Rs2: n})
	}
	for _, n := range []int{1, 0xF, 0x10, 0xFF, 0x100, 0x305, 0xABC, 0xF14, 0xFFE, 0xFFF} {
		l = append(l, api.Inst{Op: op, CSR: n}, api.Inst{Op: op, Rd: 1, Rs1: 2, CSR: n}, api.Inst{Op: op, Rd: 1, Imm: 2, CSR: n})
	}
	for n := range 32 {
		p := uint32(1) << n
		for _, imm := range []uint32{p, p - 1, p - 2, -p, -p + 1, -p + 2, p | 0x30, 0x12345000, 0xABCDE000, 13, 31, 0x3C} {
			l = append(l, api.Inst{Op: op, Imm: imm}, api.Inst{Op: op, Rd: 3, Rs1: 4, Imm: imm}, api.Inst{Op: op, Rs1: 5, Rs2: 6, Imm: imm})
		}
	}
	return slices.DeleteFunc(l, func(i api.Inst) bool {
		_, err := isa.Encode(i)
		return err != nil
	})
}

// all is insts of every instruction.
func all() []api.Inst {
	var l []api.Inst
	for _, op := range isa.Ops() {
		l = append(l, insts(op)...)
	}
	return l
}

func TestExamples(t *testing.T) { // P5.1
	for _, x := range []struct {
		s string
		i api.Inst
	}{
		{"addi x1, x0, -5", api.Inst{Op: api.Addi, Rd: 1, Imm: 0xFFFFFFFB}},
		{"lw x3, 8(x2)", api.Inst{Op: api.Lw, Rd: 3, Rs1: 2, Imm: 8}},
		{"amoadd.w.aq x1, x2, (x3)", api.Inst{Op: api.AmoAdd, Rd: 1, Rs1: 3, Rs2: 2, Aq: true}},
		{"csrrw x0, 0x305, x5", api.Inst{Op: api.Csrrw, Rs1: 5, CSR: api.Mtvec}},
		{"fence 3, 1", api.Inst{Op: api.Fence, Imm: 0x31}},

		{"lui x31, 1048575", api.Inst{Op: api.Lui, Rd: 31, Imm: 0xFFFFF000}},
		{"auipc x0, 524288", api.Inst{Op: api.Auipc, Imm: 0x80000000}},
		{"jal x1, -1048576", api.Inst{Op: api.Jal, Rd: 1, Imm: 0xFFF00000}},
		{"jalr x1, -1(x2)", api.Inst{Op: api.Jalr, Rd: 1, Rs1: 2, Imm: ones}},
		{"bltu x1, x2, -2", api.Inst{Op: api.Bltu, Rs1: 1, Rs2: 2, Imm: ones - 1}},
		{"sh x1, -2048(x2)", api.Inst{Op: api.Sh, Rs1: 2, Rs2: 1, Imm: 0xFFFFF800}},
		{"sltiu x1, x2, -1", api.Inst{Op: api.Sltiu, Rd: 1, Rs1: 2, Imm: ones}},
		{"srai x1, x2, 31", api.Inst{Op: api.Srai, Rd: 1, Rs1: 2, Imm: 31}},
		{"sub x1, x2, x3", api.Inst{Op: api.Sub, Rd: 1, Rs1: 2, Rs2: 3}},
		{"remu x1, x2, x3", api.Inst{Op: api.Remu, Rd: 1, Rs1: 2, Rs2: 3}},
		{"fence 0, 15", api.Inst{Op: api.Fence, Imm: 0x0F}},
		{"fence 15, 0", api.Inst{Op: api.Fence, Imm: 0xF0}},
		{"fence.i", api.Inst{Op: api.FenceI}},
		{"mret", api.Inst{Op: api.Mret}},
		{"sfence.vma x1, x2", api.Inst{Op: api.Sfence, Rs1: 1, Rs2: 2}},
		{"csrrs x1, 0x00a, x2", api.Inst{Op: api.Csrrs, Rd: 1, Rs1: 2, CSR: 10}},
		{"csrrsi x1, 0xfff, 31", api.Inst{Op: api.Csrrsi, Rd: 1, Imm: 31, CSR: 4095}},
		{"lr.w.rl x1, (x2)", api.Inst{Op: api.Lr, Rd: 1, Rs1: 2, Rl: true}},
		{"sc.w.aq.rl x1, x2, (x3)", api.Inst{Op: api.Sc, Rd: 1, Rs1: 3, Rs2: 2, Aq: true, Rl: true}},
	} {
		if s, err := asm.Print(x.i); s != x.s || err != nil {
			t.Errorf("Print(%+v): %q %v, not %q", x.i, s, err, x.s)
		}
		if i, err := asm.Parse(x.s); i != x.i || err != nil {
			t.Errorf("Parse(%q): %+v %v, not %+v", x.s, i, err, x.i)
		}
	}
	if i, err := asm.Parse("addi x1,x0,5"); i != (api.Inst{}) || err != api.ErrWord {
		t.Error(i, err)
	}
}

func TestEveryForm(t *testing.T) { // P5.1, P5.2
	for _, i := range all() {
		want := told(i)
		s, err := asm.Print(i)
		if s != want || err != nil {
			t.Fatalf("Print(%+v): %q %v, not %q", i, s, err, want)
		}
		if back, err := asm.Parse(s); back != i || err != nil {
			t.Fatalf("Parse(%q): %+v %v, not %+v", s, back, err, i)
		}
	}
}

func TestPrintErrors(t *testing.T) { // P5.1: those of isa.Encode, in its order
	for _, x := range []struct {
		i    api.Inst
		want error
	}{
		{api.Inst{}, api.ErrKind},
		{api.Inst{Op: 70}, api.ErrKind},
		{api.Inst{Op: -1, Rd: 32}, api.ErrKind},
		{api.Inst{Op: math.MinInt}, api.ErrKind},
		{api.Inst{Op: math.MaxInt, Imm: ones}, api.ErrKind},
		{api.Inst{Op: api.Add, Rd: 32}, api.ErrRange},
		{api.Inst{Op: api.Add, Rs1: -1}, api.ErrRange},
		{api.Inst{Op: api.Csrrw, CSR: 4096}, api.ErrRange},
		{api.Inst{Op: api.Ecall, CSR: math.MinInt, Aq: true}, api.ErrRange},
		{api.Inst{Op: api.Lui, Imm: 1}, api.ErrRange},
		{api.Inst{Op: api.Beq, Imm: 1, Rd: 1}, api.ErrRange},
		{api.Inst{Op: api.Addi, Imm: 2048}, api.ErrRange},
		{api.Inst{Op: api.Fence, Imm: 256}, api.ErrRange},
		{api.Inst{Op: api.Add, Imm: 1}, api.ErrShape},
		{api.Inst{Op: api.Fence, Rd: 1}, api.ErrShape},
		{api.Inst{Op: api.Add, Aq: true}, api.ErrShape},
		{api.Inst{Op: api.Lr, Rs2: 1}, api.ErrShape},
	} {
		if s, err := asm.Print(x.i); s != "" || err != x.want {
			t.Errorf("Print(%+v): %q %v, not %v", x.i, s, err, x.want)
		}
	}
}

func TestParseWrong(t *testing.T) { // P5.1
	for _, s := range []string{
		"", " ", "\x00", "\xFF", "x1", "5", ".aq", ".rl", ".aq.rl", ".word 0x00000000", ".word 0x00500093", "nop", "li x1, 5", "# wfi",
		"addi", "addi ", "addi x1", "addi x1, x0", "addi x1, x0,", "addi x1, x0, ", "addi x1, x0, 5, 6", "addi x1, x0, 5,", "addi x1, x0, 5 ", "addi x1, x0, 5\n", "addi x1, x0, 5\x00",
		"addi x1,x0,5", "addi x1 x0 5", "addi x1 , x0, 5", "addi  x1, x0, 5", " addi x1, x0, 5", "addi\tx1, x0, 5", "addi x1,\tx0, 5", "addi x1,  x0, 5", "addi(x1, x0, 5)", "addi, x1, x0, 5",
		"ADDI x1, x0, 5", "Addi x1, x0, 5", "addi X1, x0, 5", "addi 1, x0, 5", "addi xx1, x0, 5", "addi x, x0, 5", "addi x1, x0, x5", "addi a0, x0, 5", "addi zero, x0, 5",
		"addi x01, x0, 5", "addi x+1, x0, 5", "addi x-1, x0, 5", "addi x-0, x0, 5", "addi x32, x0, 5", "addi x0x1, x0, 5", "addi x1_0, x0, 5", "addi x4294967297, x0, 5", "addi x18446744073709551617, x0, 5",
		"addi x1, x0, 05", "addi x1, x0, +5", "addi x1, x0, -0", "addi x1, x0, -05", "addi x1, x0, --5", "addi x1, x0, 0x5", "addi x1, x0, 0b1", "addi x1, x0, 0o7", "addi x1, x0, 1_0", "addi x1, x0, 5.0", "addi x1, x0, 1e3", "addi x1, x0, ٥",
		"addi x1, x0, 2048", "addi x1, x0, -2049", "addi x1, x0, 4294967295", "addi x1, x0, 4294967301", "addi x1, x0, -4294967291", "addi x1, x0, 9223372036854775807", "addi x1, x0, 9223372036854775808", "addi x1, x0, -9223372036854775808", "addi x1, x0, 18446744073709551621",
		"lw x1, x2", "lw x1, (x2)", "lw x1, 0(x2", "lw x1, 0x2)", "lw x1, 0 (x2)", "lw x1, 0( x2)", "lw x1, 0(x2) ", "lw x1, 0(x2))", "lw x1, 0((x2))", "lw x1, 00(x2)", "lw x1, x2, 0", "lw x1, 0(2)",
		"sw x1, x2, 0", "jalr x1, x2, 0", "jalr x1", "jal 8", "jal x1, 3", "jal x1, 1048576", "jal x1, -1048578", "beq x1, x2, 3", "beq x1, x2, 4096", "beq x1, x2, -4098", "beq x1, x2",
		"lui x1, -1", "lui x1, 1048576", "lui x1, 4294967296", "lui x1, 0xfffff", "auipc x1, -524288", "slli x1, x2, 32", "slli x1, x2, -1", "srai x1, x2, 4294967296", "add x1, x2, 3", "add x1, x2",
		"csrrw x0, 305, x5", "csrrw x0, 0x1305, x5", "csrrw x0, 0x0305, x5", "csrrw x0, 0x3A5, x5", "csrrw x0, 0X305, x5", "csrrw x0, 0x35, x5", "csrrw x0, 0x, x5", "csrrw x0, x305, x5", "csrrw x0, 0xg05, x5", "csrrw x0, 0x-05, x5", "csrrw x0, mtvec, x5", "csrrw x0, 0x305, 5",
		"csrrwi x0, 0x340, 32", "csrrwi x0, 0x340, -1", "csrrwi x0, 0x340, x5", "csrrwi x0, 0x340, 05",
		"fence", "fence ", "fence 1", "fence 16, 1", "fence 1, 16", "fence 0, 17", "fence -1, 1", "fence 1, -1", "fence 0, 255", "fence 268435456, 1", "fence 4294967296, 1", "fence 1, 4294967296", "fence rw, rw", "fence.i ", "fence.i 0, 0", "fence.i x0",
		"ecall ", "ecall x0", "ecall.aq", "wfi.rl", "sfence.vma", "sfence.vma x0", "sfence x0, x0", "sfence.vma.aq x0, x0",
		"lr.w.rl.aq x1, (x2)", "lr.w.aq.aq x1, (x2)", "lr.w.rl.rl x1, (x2)", "lr.w.aqrl x1, (x2)", "lr.w.AQ x1, (x2)", "lr.w. x1, (x2)", "lr.w.x x1, (x2)", "lr.aq.w x1, (x2)", "lr x1, (x2)", "lr.w x1, 0(x2)", "lr.w x1, x2", "lr.w x1, x0, (x2)", "lr.w x1 (x2)",
		"add.aq x1, x2, x3", "amoadd x1, x2, (x3)", "amoadd.w x1, x2, x3", "amoadd.w x1, x2, 0(x3)", "amoadd.w x1, (x3)", "amoadd.d x1, x2, (x3)", "sc.w x1, (x3), x2",
	} {
		if i, err := asm.Parse(s); i != (api.Inst{}) || err != api.ErrWord {
			t.Errorf("Parse(%q): %+v %v", s, i, err)
		}
		if words, err := asm.Program(s); len(words) > 0 || !errors.Is(err, api.ErrWord) {
			t.Errorf("Program(%q): %x %v", s, words, err)
		}
	}
}

// patterns is for each instruction which texts have its form, and which parts stand there, of the letters d (Rd), 1 (Rs1), 2 (Rs2), c (CSR), i (Imm), u (Imm's upper bits), p and s (Fence).
func patterns() map[string]*regexp.Regexp {
	l := map[string]*regexp.Regexp{}
	for _, x := range []struct{ names, parts string }{
		{"lui auipc", "d, u"},
		{"jal", "d, i"},
		{"jalr lb lh lw lbu lhu", "d, i(1)"},
		{"sb sh sw", "2, i(1)"},
		{"beq bne blt bge bltu bgeu", "1, 2, i"},
		{"addi slti sltiu xori ori andi slli srli srai", "d, 1, i"},
		{"add sub sll slt sltu xor srl sra or and mul mulh mulhsu mulhu div divu rem remu", "d, 1, 2"},
		{"fence", "p, s"},
		{"fence.i ecall ebreak mret wfi", ""},
		{"csrrw csrrs csrrc", "d, c, 1"},
		{"csrrwi csrrsi csrrci", "d, c, i"},
		{"sfence.vma", "1, 2"},
		{"lr.w", "d, (1)"},
		{"sc.w amoswap.w amoadd.w amoxor.w amoand.w amoor.w amomin.w amomax.w amominu.w amomaxu.w", "d, 2, (1)"},
	} {
		parts := strings.NewReplacer("(", `\(`, ")", `\)`,
			"d", `x(?<d>0|[1-9]\d*)`, "1", `x(?<r1>0|[1-9]\d*)`, "2", `x(?<r2>0|[1-9]\d*)`, "c", `0x(?<c>[\da-f]{3})`,
			"i", `(?<i>0|-?[1-9]\d*)`, "u", `(?<u>0|[1-9]\d*)`, "p", `(?<p>0|[1-9]\d*)`, "s", `(?<s>0|[1-9]\d*)`,
		).Replace(x.parts)
		if parts != "" {
			parts = " " + parts
		}
		for _, name := range strings.Fields(x.names) {
			l[name] = regexp.MustCompile(`^` + regexp.QuoteMeta(name) + `(?<aq>\.aq)?(?<rl>\.rl)?` + parts + `$`)
		}
	}
	return l
}

// reader is what texts say, by patterns.
type reader map[string]*regexp.Regexp

// said is the instruction of the text s.
func (r reader) said(s string) (api.Inst, bool) {
	for name, p := range r {
		m := p.FindStringSubmatch(s)
		if m == nil {
			continue
		}
		i := api.Inst{Op: isa.Op(name)}
		fit := true
		for k, part := range p.SubexpNames() {
			fit = fit && (m[k] == "" || take(&i, part, m[k]))
		}
		_, err := isa.Encode(i)
		return i, fit && err == nil
	}
	return api.Inst{}, false
}

// take sets a part of i; false where the number is too great for the part.
func take(i *api.Inst, part, s string) bool {
	base := 10
	if part == "c" {
		base = 16
	}
	n, err := strconv.ParseInt(s, base, 32)
	switch part {
	case "", "aq", "rl":
		i.Aq, i.Rl = i.Aq || part == "aq", i.Rl || part == "rl"
		return true
	case "d":
		i.Rd = int(n)
	case "r1":
		i.Rs1 = int(n)
	case "r2":
		i.Rs2 = int(n)
	case "c":
		i.CSR = int(n)
	case "i":
		i.Imm = uint32(n)
	case "u":
		i.Imm = uint32(n) << 12
		return err == nil && n < 1<<20
	case "p":
		i.Imm |= uint32(n) << 4
		return err == nil && n < 16
	case "s":
		i.Imm |= uint32(n)
		return err == nil && n < 16
	}
	return err == nil
}

// check holds Parse of s against the patterns.
func (r reader) check(t *testing.T, s string) {
	t.Helper()
	want, is := r.said(s)
	got, err := asm.Parse(s)
	if is && (got != want || err != nil) {
		t.Fatalf("Parse(%q): %+v %v, not %+v", s, got, err, want)
	}
	if !is && (got != (api.Inst{}) || err != api.ErrWord) {
		t.Fatalf("Parse(%q): %+v %v, but it is none", s, got, err)
	}
}

func TestParseNear(t *testing.T) { // P5.1: one letter beside what is written
	r := reader(patterns())
	if len(r) != api.Maxu {
		t.Fatal(len(r))
	}
	for _, op := range isa.Ops() {
		l := insts(op)
		longest := slices.MaxFunc(l, func(i, j api.Inst) int { return len(told(i)) - len(told(j)) })
		for _, i := range []api.Inst{l[0], longest, l[len(l)-1]} {
			s := told(i)
			r.check(t, s)
			for at := range len(s) + 1 {
				for _, c := range []string{"", " ", ",", "(", ")", ".", "x", "-", "+", "0", "1", "3", "9", "a", "F", "_", "\t", "\xC3"} {
					r.check(t, s[:at]+c+s[at:])
					if at < len(s) {
						r.check(t, s[:at]+c+s[at+1:])
					}
				}
			}
		}
	}
}

func TestParseNumbers(t *testing.T) { // P5.1: at the edges of every part, and far past them
	r := reader(patterns())
	for _, form := range []string{
		"lui x1, %d", "jal x1, %d", "jalr x1, %d(x2)", "lw x1, %d(x2)", "sw x1, %d(x2)", "beq x1, x2, %d", "addi x1, x2, %d", "slli x1, x2, %d",
		"add x%d, x1, x2", "add x1, x%d, x2", "add x1, x2, x%d", "fence %d, 1", "fence 1, %d", "csrrwi x1, 0x305, %d", "csrrw x1, 0x%03x, x2", "lr.w x1, (x%d)", "amoadd.w x1, x2, (x%d)",
	} {
		for n := range 63 {
			for _, near := range []int64{-2, -1, 0, 1, 2} {
				r.check(t, fmt.Sprintf(form, int64(1)<<n+near))
				r.check(t, fmt.Sprintf(form, int64(-1)<<n+near))
			}
		}
		r.check(t, fmt.Sprintf(form, uint64(math.MaxUint64)))
		r.check(t, strings.Replace(fmt.Sprintf(form, 7), "7", strings.Repeat("1", 100000), 1))
	}
}

func TestProgram(t *testing.T) { // P5.1
	words, err := asm.Program("addi x1, x0, 5", "lw x3, 8(x2)", "wfi", "addi x1, x0, 5")
	if !slices.Equal(words, []uint32{0x00500093, 0x00812183, 0x10500073, 0x00500093}) || err != nil {
		t.Errorf("%08x %v", words, err)
	}
	for _, l := range [][]string{nil, {}} {
		if words, err := asm.Program(l...); len(words) > 0 || err != nil {
			t.Error(words, err)
		}
	}
}

func TestProgramErrors(t *testing.T) { // P5.1: around the first line that has one
	for _, x := range []struct {
		lines []string
		pos   int
	}{
		{[]string{""}, 0},
		{[]string{"oops", "wfi"}, 0},
		{[]string{"wfi", "oops", "wfi"}, 1},
		{[]string{"wfi", "mret", "", "oops"}, 2},
		{[]string{"wfi", "addi x1, x0, 2048", "fence 16, 0"}, 1},
		{[]string{"wfi", "wfi", "wfi\nwfi"}, 2},
		{[]string{"wfi", ".word 0x00000000"}, 1},
	} {
		words, err := asm.Program(x.lines...)
		at, is := err.(*api.At)
		if len(words) > 0 || !is || at.Pos != x.pos || at.Err != api.ErrWord {
			t.Errorf("Program(%q): %x %v", x.lines, words, err)
		}
	}
}

func TestLines(t *testing.T) { // P5.1
	for _, x := range []struct {
		w    uint32
		want string
	}{
		{0x00500093, "addi x1, x0, 5"},
		{0x00812183, "lw x3, 8(x2)"},
		{0xFFF0D073, "csrrwi x0, 0xfff, 1"},
		{0x0431A0AF, "amoadd.w.aq x1, x3, (x3)"},
		{0, ".word 0x00000000"},
		{1, ".word 0x00000001"},
		{0x0000ABCF, ".word 0x0000abcf"},
		{0x02001013, ".word 0x02001013"},
		{0xA0B0C0DF, ".word 0xa0b0c0df"},
		{ones, ".word 0xffffffff"},
	} {
		if got := asm.Lines(x.w); !slices.Equal(got, []string{x.want}) {
			t.Errorf("Lines(%08x): %q", x.w, got)
		}
	}
	if got := asm.Lines(0, 0x10500073, 0, 0x10500073); !slices.Equal(got, []string{".word 0x00000000", "wfi", ".word 0x00000000", "wfi"}) {
		t.Error(got)
	}
	for _, l := range [][]uint32{nil, {}} {
		if got := asm.Lines(l...); len(got) > 0 {
			t.Error(got)
		}
	}
}

func TestThereAndBack(t *testing.T) { // P5.2: at every opcode, F3 and F7
	var words []uint32
	for head := range uint32(1 << 17) {
		for _, regs := range []uint32{0, 21<<7 | 10<<15 | 22<<20, 0x01FF8F80} {
			w := head&0x7F | head>>7&7<<12 | head>>10<<25 | regs
			i, is := isa.Decode(w)
			if !is {
				if got := asm.Lines(w); !slices.Equal(got, []string{fmt.Sprintf(".word 0x%08x", w)}) {
					t.Fatalf("Lines(%08x): %q", w, got)
				}
				continue
			}
			words = append(words, w)
			s, err := asm.Print(i)
			back, bad := asm.Parse(s)
			if err != nil || bad != nil || back != i {
				t.Fatalf("%08x: %q %v %+v %v", w, s, err, back, bad)
			}
		}
	}
	if back, err := asm.Program(asm.Lines(words...)...); !slices.Equal(back, words) || err != nil {
		t.Error(len(words), len(back), err)
	}
}

func TestMemory(t *testing.T) { // P0.4, for P5.1: lists are new, and what is handed in stays as it was
	words := []uint32{0x10500073, 0, 0x00500093, 7}
	texts := asm.Lines(words[:3]...)
	lines := append(slices.Clone(texts[:1]), "mret", "oops")
	first, err := asm.Program(lines[:2]...)
	second, _ := asm.Program(lines[:2]...)
	if err != nil || !slices.Equal(words, []uint32{0x10500073, 0, 0x00500093, 7}) || !slices.Equal(lines, []string{"wfi", "mret", "oops"}) {
		t.Error(words, lines, err)
	}
	for n := range first {
		first[n] = 0
	}
	_ = append(first[:0], make([]uint32, cap(first))...)
	if !slices.Equal(second, []uint32{0x10500073, 0x30200073}) {
		t.Errorf("%08x", second)
	}
	other := asm.Lines(words[:3]...)
	_ = append(texts[:0], make([]string, cap(texts))...)
	if !slices.Equal(other, []string{"wfi", ".word 0x00000000", "addi x1, x0, 5"}) {
		t.Error(other)
	}
}

func FuzzParse(f *testing.F) { // P5.1, P5.2
	r := reader(patterns())
	for _, op := range isa.Ops() {
		f.Add(told(api.Inst{Op: op}))
	}
	f.Fuzz(func(t *testing.T, s string) {
		r.check(t, s)
	})
}
