package isa_test

import (
	"math"
	"slices"
	"strings"
	"testing"

	"corral/api"
	"corral/enc"
	"corral/isa"
)

const ones = 0xFFFFFFFF

// told is what the chapter tells of an instruction: its name, its kind, its word with all fields 0, and the fields that it uses, of the letters d (Rd), 1 (Rs1), 2 (Rs2), c (CSR), o (Aq and Rl), and of Imm I S B U J, or p (places of a shift), n (number of Csrrwi and its like), f (bits of Fence).
type told struct {
	op, kind int
	name     string
	word     uint32
	uses     string
}

// group is instructions that stand in package api one after the other from first on; their words come from opcode, and a list of F3 and of F7.
func group(first, kind int, names, uses string, opcode uint32, f3, f7 []uint32) []told {
	var l []told
	for n, name := range strings.Fields(names) {
		w := opcode | f3[n]<<12
		if f7 != nil {
			w |= f7[n] << 25
		}
		l = append(l, told{first + n, kind, name, w, uses})
	}
	return l
}

// high is F7 of bits 31 to 27.
func high(l ...uint32) []uint32 {
	for n := range l {
		l[n] *= 4
	}
	return l
}

// chapter is the chapter's table, in the order of package api.
func chapter() []told {
	f := func(l ...uint32) []uint32 { return l }
	return slices.Concat(
		[]told{
			{1, 1, "lui", 0x37, "dU"}, {2, 1, "auipc", 0x17, "dU"}, {3, 2, "jal", 0x6F, "dJ"}, {4, 2, "jalr", 0x67, "d1I"},
		},
		group(5, 3, "beq bne blt bge bltu bgeu", "12B", 0x63, f(0, 1, 4, 5, 6, 7), nil),
		group(11, 4, "lb lh lw lbu lhu", "d1I", 0x03, f(0, 1, 2, 4, 5), nil),
		group(16, 5, "sb sh sw", "12S", 0x23, f(0, 1, 2), nil),
		group(19, 1, "addi slti sltiu xori ori andi", "d1I", 0x13, f(0, 2, 3, 4, 6, 7), nil),
		group(25, 1, "slli srli srai", "d1p", 0x13, f(1, 5, 5), f(0, 0, 0x20)),
		group(28, 1, "add sub sll slt sltu xor srl sra or and", "d12", 0x33, f(0, 0, 1, 2, 3, 4, 5, 5, 6, 7), f(0, 0x20, 0, 0, 0, 0, 0, 0x20, 0, 0)),
		[]told{
			{38, 7, "fence", 0x0F, "f"}, {39, 7, "fence.i", 0x0000100F, ""},
			{40, 7, "ecall", 0x00000073, ""}, {41, 7, "ebreak", 0x00100073, ""}, {42, 7, "mret", 0x30200073, ""}, {43, 7, "wfi", 0x10500073, ""},
		},
		group(44, 7, "sfence.vma", "12", 0x73, f(0), f(9)),
		group(45, 7, "csrrw csrrs csrrc", "d1c", 0x73, f(1, 2, 3), nil),
		group(48, 7, "csrrwi csrrsi csrrci", "dcn", 0x73, f(5, 6, 7), nil),
		group(51, 1, "mul mulh mulhsu mulhu div divu rem remu", "d12", 0x33, f(0, 1, 2, 3, 4, 5, 6, 7), f(1, 1, 1, 1, 1, 1, 1, 1)),
		group(59, 4, "lr.w", "d1o", 0x2F, f(2), high(2)),
		group(60, 6, "sc.w amoswap.w amoadd.w amoxor.w amoand.w amoor.w amomin.w amomax.w amominu.w amomaxu.w", "d12o", 0x2F, slices.Repeat(f(2), 10), high(3, 1, 0, 4, 0x0C, 8, 0x10, 0x14, 0x18, 0x1C)),
	)
}

// has tells whether a field is used.
func (x told) has(field string) bool { return strings.ContainsAny(x.uses, field) }

const anyImm = "ISBUJpnf"

// free is the bits of the word that the fields take.
func (x told) free() uint32 {
	var free uint32
	for _, c := range x.uses {
		free |= map[rune]uint32{
			'd': 0x1F << 7, '1': 0x1F << 15, '2': 0x1F << 20, 'c': 0xFFF << 20, 'o': 3 << 25,
			'I': 0xFFF << 20, 'S': 0x7F<<25 | 0x1F<<7, 'B': 0x7F<<25 | 0x1F<<7, 'U': 0xFFFFF << 12, 'J': 0xFFFFF << 12,
			'p': 0x1F << 20, 'n': 0x1F << 15, 'f': 0xFF << 20,
		}[c]
	}
	return free
}

// fields is the instruction with what the word has in its fields.
func (x told) fields(w uint32) api.Inst {
	i := api.Inst{Op: x.op}
	for _, c := range x.uses {
		switch c {
		case 'd':
			i.Rd = int(w >> 7 & 31)
		case '1':
			i.Rs1 = int(w >> 15 & 31)
		case '2':
			i.Rs2 = int(w >> 20 & 31)
		case 'c':
			i.CSR = int(w >> 20)
		case 'o':
			i.Aq, i.Rl = w>>26&1 == 1, w>>25&1 == 1
		case 'p':
			i.Imm = w >> 20 & 31
		case 'n':
			i.Imm = w >> 15 & 31
		case 'f':
			i.Imm = w >> 20 & 255
		default:
			i.Imm = enc.Imm(byte(c), w)
		}
	}
	return i
}

// decoded is what the chapter's table says of a word.
func decoded(table []told, w uint32) (api.Inst, bool) {
	for _, x := range table {
		if w&^x.free() == x.word {
			return x.fields(w), true
		}
	}
	return api.Inst{}, false
}

// byOpcode is the chapter's table, a part an opcode.
func byOpcode() [128][]told {
	var l [128][]told
	for _, x := range chapter() {
		l[x.word&0x7F] = append(l[x.word&0x7F], x)
	}
	return l
}

func TestChapterTable(t *testing.T) { // P3.1, P3.2: the tests' own table is whole
	l := chapter()
	if len(l) != api.Maxu {
		t.Fatal(len(l))
	}
	for n, x := range l {
		if x.op != n+1 || x.word&x.free() != 0 {
			t.Error(n, x)
		}
	}
}

func TestExamples(t *testing.T) { // P3.1
	if i, is := isa.Decode(0x00500093); i != (api.Inst{Op: api.Addi, Rd: 1, Imm: 5}) || !is {
		t.Error(i, is)
	}
	if i, is := isa.Decode(0); i != (api.Inst{}) || is {
		t.Error(i, is)
	}
	if w, err := isa.Encode(api.Inst{Op: api.Slli, Imm: 32}); w != 0 || err != api.ErrRange {
		t.Error(w, err)
	}
}

func TestDecodeWords(t *testing.T) { // P3.1
	for _, x := range []struct {
		w    uint32
		want api.Inst
	}{
		{0x12345537, api.Inst{Op: api.Lui, Rd: 10, Imm: 0x12345000}},
		{0xFFFFFF97, api.Inst{Op: api.Auipc, Rd: 31, Imm: 0xFFFFF000}},
		{0x008000EF, api.Inst{Op: api.Jal, Rd: 1, Imm: 8}},
		{0xFFC10067, api.Inst{Op: api.Jalr, Rs1: 2, Imm: 0xFFFFFFFC}},
		{0xFE20CEE3, api.Inst{Op: api.Blt, Rs1: 1, Rs2: 2, Imm: 0xFFFFFFFC}},
		{0x00812183, api.Inst{Op: api.Lw, Rd: 3, Rs1: 2, Imm: 8}},
		{0xFE310FA3, api.Inst{Op: api.Sb, Rs1: 2, Rs2: 3, Imm: ones}},
		{0x00321193, api.Inst{Op: api.Slli, Rd: 3, Rs1: 4, Imm: 3}},
		{0x01F25193, api.Inst{Op: api.Srli, Rd: 3, Rs1: 4, Imm: 31}},
		{0x023150B3, api.Inst{Op: api.Divu, Rd: 1, Rs1: 2, Rs2: 3}},
		{0x0FF0000F, api.Inst{Op: api.Fence, Imm: 0xFF}},
		{0x0000000F, api.Inst{Op: api.Fence}},
		{0x12000073, api.Inst{Op: api.Sfence}},
		{0xF14022F3, api.Inst{Op: api.Csrrs, Rd: 5, CSR: api.Mhartid}},
		{0xFFF0D073, api.Inst{Op: api.Csrrwi, CSR: 4095, Imm: 1}},
		{0x100120AF, api.Inst{Op: api.Lr, Rd: 1, Rs1: 2}},
		{0x0431A0AF, api.Inst{Op: api.AmoAdd, Rd: 1, Rs1: 3, Rs2: 3, Aq: true}},
		{0x8231A0AF, api.Inst{Op: api.Min, Rd: 1, Rs1: 3, Rs2: 3, Rl: true}},
	} {
		i, is := isa.Decode(x.w)
		w, err := isa.Encode(x.want)
		if i != x.want || !is || w != x.w || err != nil {
			t.Errorf("%08x: %+v %v; %08x %v", x.w, i, is, w, err)
		}
	}
}

func TestDecodeNone(t *testing.T) { // P3.1
	for _, w := range []uint32{
		0, ones, 0x7F, 0x1067, 0x7067, 0x2063, 0x3063, 0x3003, 0x6003, 0x7003, 0x3023, 0x7023,
		0x02001013, 0x42001013, 0x80005013, 0x40001033, 0x40002033, 0x40007033, 0x04000033, 0x42000033,
		0x1000000F, 0x8000000F, 0x0000008F, 0x0000800F, 0x0000108F, 0x0000900F, 0x0010100F, 0x0000200F,
		0x000000F3, 0x00008073, 0x00200073, 0x30200173, 0x30208073, 0x30300073, 0x105000F3, 0x10508073, 0x10400073,
		0x120000F3, 0x14000073, 0x10000073, 0x00004073,
		0x1010202F, 0x11F0202F, 0x2800202F, 0x3000202F, 0xF800202F, 0x0000102F, 0x0000302F,
	} {
		if i, is := isa.Decode(w); i != (api.Inst{}) || is {
			t.Errorf("%08x: %+v", w, i)
		}
	}
}

func TestDecodeAll(t *testing.T) { // P3.1, P3.3: at every opcode, F3 and F7
	for opcode, table := range byOpcode() {
		for high := uint32(0); high < 1<<10; high++ {
			for _, regs := range []uint32{0, 1 << 7, 1 << 15, 1 << 20, 2 << 20, 5 << 20, 31 << 20, 21<<7 | 10<<15 | 22<<20, 0x01FF8F80} {
				checkWord(t, table, uint32(opcode)|high&7<<12|high>>3<<25|regs)
			}
		}
	}
}

func TestDecodeNear(t *testing.T) { // P3.1, P3.3: one or two bits beside the words of the table
	tables := byOpcode()
	for _, x := range chapter() {
		for a := range 32 {
			for b := range 32 {
				w := x.word ^ 1<<a ^ 1<<b
				checkWord(t, tables[w&0x7F], w)
				checkWord(t, tables[w&0x7F], w|x.free())
			}
		}
	}
}

// checkWord holds Decode against the table, and Encode against the word.
func checkWord(t *testing.T, table []told, w uint32) {
	t.Helper()
	want, is := decoded(table, w)
	got, ok := isa.Decode(w)
	if got != want || ok != is {
		t.Fatalf("Decode(%08x): %+v %v, not %+v %v", w, got, ok, want, is)
	}
	if !is {
		return
	}
	if back, err := isa.Encode(got); back != w || err != nil {
		t.Fatalf("Encode(%+v): %08x %v, not %08x", got, back, err, w)
	}
}

// imms is numbers at and beside the edges of all formats and fields.
func imms() []uint32 {
	l := []uint32{0, 3, 5, 6, 0x12345000, 0xABCDE000, 0x12345678, 0xDEADBEEF}
	for n := range 32 {
		p := uint32(1) << n
		l = append(l, p-2, p-1, p, p+1, -p-2, -p-1, -p, -p+1, p|0x800)
	}
	return l
}

// room tells whether an instruction that uses Imm can hold this one, by the numbers that its bits can make.
func (x told) room(imm uint32) bool {
	n := int32(imm)
	switch {
	case x.has("IS"):
		return -2048 <= n && n <= 2047
	case x.has("B"):
		return -4096 <= n && n <= 4094 && n%2 == 0
	case x.has("J"):
		return -1048576 <= n && n <= 1048574 && n%2 == 0
	case x.has("U"):
		return imm%4096 == 0
	case x.has("pn"):
		return imm <= 31
	}
	return imm <= 255
}

func TestEncodeImm(t *testing.T) { // P3.1, P3.3
	for _, x := range chapter() {
		for _, imm := range imms() {
			i := api.Inst{Op: x.op, Imm: imm}
			var want error
			switch {
			case !x.has(anyImm) && imm != 0:
				want = api.ErrShape
			case x.has(anyImm) && !x.room(imm):
				want = api.ErrRange
			}
			checkEncode(t, i, want)
		}
	}
}

// checkEncode holds the error of Encode against want, and Decode of what it made against the instruction.
func checkEncode(t *testing.T, i api.Inst, want error) {
	t.Helper()
	w, err := isa.Encode(i)
	if err != want {
		t.Errorf("Encode(%+v): %v, not %v", i, err, want)
		return
	}
	if err != nil {
		if w != 0 {
			t.Errorf("Encode(%+v): %08x beside an error", i, w)
		}
		return
	}
	if back, is := isa.Decode(w); back != i || !is {
		t.Errorf("Decode(%08x): %+v %v, not %+v", w, back, is, i)
	}
}

// field is a number of an instruction, by the letter of the fields' list.
func field(i *api.Inst, letter string) *int {
	switch letter {
	case "d":
		return &i.Rd
	case "1":
		return &i.Rs1
	case "2":
		return &i.Rs2
	}
	return &i.CSR
}

func TestEncodeFields(t *testing.T) { // P3.1, P3.3
	for _, x := range chapter() {
		for _, letter := range []string{"d", "1", "2", "c"} {
			last := 31
			if letter == "c" {
				last = 4095
			}
			for _, n := range []int{1, 16, last - 1, last} {
				i := api.Inst{Op: x.op}
				*field(&i, letter) = n
				var want error
				if !x.has(letter) {
					want = api.ErrShape
				}
				checkEncode(t, i, want)
			}
			for _, n := range []int{-1, last + 1, last + 2, 1 << 12, 1 << 32, 1<<32 + 1, -1 << 32, math.MaxInt, math.MinInt} {
				i := api.Inst{Op: x.op}
				*field(&i, letter) = n
				checkEncode(t, i, api.ErrRange)
			}
		}
		for _, i := range []api.Inst{{Op: x.op, Aq: true}, {Op: x.op, Rl: true}, {Op: x.op, Aq: true, Rl: true}} {
			var want error
			if !x.has("o") {
				want = api.ErrShape
			}
			checkEncode(t, i, want)
		}
	}
}

func TestEncodeAllFields(t *testing.T) { // P3.1, P3.3: every field that is used is laid, beside the others
	for _, x := range chapter() {
		for _, w := range []uint32{0, ones, 0xDEADBEEF, 0x12345678, 0xA5A5A5A5, 0x5A5A5A5A} {
			want := x.word | w&x.free()
			i := x.fields(want)
			if got, err := isa.Encode(i); got != want || err != nil {
				t.Errorf("Encode(%+v): %08x %v, not %08x", i, got, err, want)
			}
		}
	}
}

func TestEncodeOrder(t *testing.T) { // P3.1: the error that is named first
	for _, x := range []struct {
		i    api.Inst
		want error
	}{
		{api.Inst{}, api.ErrKind},
		{api.Inst{Op: -1}, api.ErrKind},
		{api.Inst{Op: 70}, api.ErrKind},
		{api.Inst{Op: math.MaxInt}, api.ErrKind},
		{api.Inst{Op: math.MinInt}, api.ErrKind},
		{api.Inst{Op: 1<<32 + api.Add}, api.ErrKind},
		{api.Inst{Op: 70, Rd: 32, Imm: 1, Aq: true}, api.ErrKind},
		{api.Inst{Op: 0, CSR: -1}, api.ErrKind},
		{api.Inst{Op: api.Beq, Rd: 32}, api.ErrRange},
		{api.Inst{Op: api.Beq, Rd: 1, Rs1: 32}, api.ErrRange},
		{api.Inst{Op: api.Beq, Rd: 1, Imm: 4096}, api.ErrRange},
		{api.Inst{Op: api.Addi, Rs2: 1, Imm: 2048}, api.ErrRange},
		{api.Inst{Op: api.Ecall, Imm: 1, CSR: 4096}, api.ErrRange},
		{api.Inst{Op: api.Ecall, Aq: true, Rs2: -1}, api.ErrRange},
		{api.Inst{Op: api.Slli, Imm: 32, Rl: true}, api.ErrRange},
		{api.Inst{Op: api.Lr, Rs2: 1, Aq: true}, api.ErrShape},
		{api.Inst{Op: api.Csrrwi, Rs1: 1, Imm: 1}, api.ErrShape},
		{api.Inst{Op: api.Ecall, Imm: ones}, api.ErrShape},
		{api.Inst{Op: api.Mul, Imm: 1}, api.ErrShape},
	} {
		checkEncode(t, x.i, x.want)
	}
}

func TestNames(t *testing.T) { // P3.2
	for _, x := range chapter() {
		if got := isa.Name(x.op); got != x.name {
			t.Errorf("Name(%d): %s, not %s", x.op, got, x.name)
		}
		if got := isa.Op(x.name); got != x.op {
			t.Errorf("Op(%s): %d, not %d", x.name, got, x.op)
		}
		for _, s := range []string{strings.ToUpper(x.name), x.name + " ", " " + x.name, x.name + ".aq", x.name + ".w"} {
			if got := isa.Op(s); got != 0 {
				t.Errorf("Op(%s): %d", s, got)
			}
		}
	}
	for _, s := range []string{"", " ", "fencei", "sfence", "lr", "sc", "swap", "amoadd", "amoswap", "min", "max", "nop", "\x00", "\xFF", "Lui"} {
		if got := isa.Op(s); got != 0 {
			t.Errorf("Op(%q): %d", s, got)
		}
	}
}

func TestOps(t *testing.T) { // P3.2
	var want []int
	for _, x := range chapter() {
		want = append(want, x.op)
	}
	l, other := isa.Ops(), isa.Ops()
	if !slices.Equal(l, want) {
		t.Fatal(l)
	}
	for n := range l { // P0.4: each list is new memory.
		l[n] = -1
	}
	_ = append(l[:0], make([]int, cap(l))...)
	if !slices.Equal(other, want) || !slices.Equal(isa.Ops(), want) {
		t.Error(other, isa.Ops())
	}
}

func TestUsesAndKind(t *testing.T) { // P3.2
	for _, x := range chapter() {
		rd, rs1, rs2, imm := isa.Uses(x.op)
		if rd != x.has("d") || rs1 != x.has("1") || rs2 != x.has("2") || imm != x.has(anyImm) {
			t.Error("Uses", x.name, rd, rs1, rs2, imm)
		}
		if got := isa.Kind(x.op); got != x.kind {
			t.Error("Kind", x.name, got)
		}
	}
}

func TestNoOp(t *testing.T) { // P3.2
	for _, op := range []int{0, -1, 70, 71, 1 << 32, 1<<32 + api.Add, math.MaxInt, math.MinInt} {
		rd, rs1, rs2, imm := isa.Uses(op)
		if rd || rs1 || rs2 || imm || isa.Kind(op) != 0 || isa.Name(op) != "" {
			t.Error(op, rd, rs1, rs2, imm, isa.Kind(op), isa.Name(op))
		}
	}
}

func FuzzDecode(f *testing.F) { // P3.1, P3.3
	tables := byOpcode()
	f.Add(uint32(0x00500093))
	f.Fuzz(func(t *testing.T, w uint32) {
		checkWord(t, tables[w&0x7F], w)
	})
}
