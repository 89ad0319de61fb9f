package alu_test

import (
	"math"
	"math/big"
	"slices"
	"testing"

	"corral/alu"
	"corral/api"
)

const (
	ones     = 0xFFFFFFFF
	lowestOf = 0x80000000 // the least of the numbers with a sign
)

// numbers is what every pair is taken of: the edges of words, of bytes and of halves, of the five bits of a shift, and some without a pattern.
func numbers() []uint32 {
	return []uint32{
		0, 1, 2, 3, 4, 5, 7, 10, 12, 30, 31, 32, 33, 63, 64, 100,
		0x7E, 0x7F, 0x80, 0x81, 0xFE, 0xFF, 0x100, 0x101, 0x7FFF, 0x8000, 0x8001, 0xFFFF, 0x10000, 0x10001,
		0x12345678, 0x55555555, 0xAAAAAAAA, 0xDEADBEEF, 0x0BADF00D, 0x80808080, 0x7F7F7F7F,
		0x7FFFFFFE, 0x7FFFFFFF, lowestOf, lowestOf + 1, lowestOf + 2, 0xC0000000,
		0xFFFFFF7F, 0xFFFFFF80, 0xFFFF7FFF, 0xFFFF8000, 0xFFFFFFE0, 0xFFFFFFF9, ones - 1, ones,
	}
}

// pairs calls f with every two of the numbers.
func pairs(f func(a, b uint32)) {
	for _, a := range numbers() {
		for _, b := range numbers() {
			f(a, b)
		}
	}
}

// wrongOps is what is no instruction.
func wrongOps() []int {
	return []int{math.MinInt, math.MinInt32, -1000, -2, -1, 0, 70, 71, 72, 100, 127, 128, 255, 256, 1 << 16, math.MaxInt32, math.MaxInt32 + 1, 1<<32 + api.Add, 1<<32 + api.Beq, 1<<32 + api.Lw, math.MaxInt}
}

// allOps is every instruction and what is none.
func allOps() []int {
	l := wrongOps()
	for op := 1; op <= 69; op++ {
		l = append(l, op)
	}
	return l
}

// signed is a as a number without bounds, with its sign.
func signed(a uint32) *big.Int { return big.NewInt(int64(int32(a))) }

// unsigned is a as a number without bounds, without a sign.
func unsigned(a uint32) *big.Int { return big.NewInt(int64(a)) }

// low is the lowest 32 bits of n.
func low(n *big.Int) uint32 {
	return uint32(new(big.Int).And(n, unsigned(ones)).Uint64())
}

// upper is bits 63 to 32 of a times b.
func upper(a, b *big.Int) uint32 {
	n := new(big.Int).Mul(a, b)
	return low(n.Rsh(n, 32))
}

// quotient is a by b, cut towards 0; all bits by 0.
func quotient(a, b *big.Int) uint32 {
	if b.Sign() == 0 {
		return ones
	}
	return low(new(big.Int).Quo(a, b))
}

// remainder is what quotient leaves.
func remainder(a, b *big.Int) uint32 {
	if b.Sign() == 0 {
		return low(a)
	}
	return low(new(big.Int).Rem(a, b))
}

// one is 1 or 0.
func one(is bool) uint32 {
	if is {
		return 1
	}
	return 0
}

// shift is a moved by places, each of the lowest five bits of b.
func shift(a, b uint32, move func(uint32) uint32) uint32 {
	for range b % 32 {
		a = move(a)
	}
	return a
}

// reckons is what the chapter says that Do gives, for each of its instructions.
func reckons() map[int]func(a, b uint32) uint32 {
	up := func(a uint32) uint32 { return a + a }
	down := func(a uint32) uint32 { return a / 2 }
	downSigned := func(a uint32) uint32 { return a/2 | a&lowestOf }
	l := map[int]func(a, b uint32) uint32{
		api.Add:    func(a, b uint32) uint32 { return low(new(big.Int).Add(unsigned(a), unsigned(b))) },
		api.Sub:    func(a, b uint32) uint32 { return low(new(big.Int).Sub(unsigned(a), unsigned(b))) },
		api.Sll:    func(a, b uint32) uint32 { return shift(a, b, up) },
		api.Slt:    func(a, b uint32) uint32 { return one(signed(a).Cmp(signed(b)) < 0) },
		api.Sltu:   func(a, b uint32) uint32 { return one(a < b) },
		api.Xor:    func(a, b uint32) uint32 { return (a | b) - (a & b) },
		api.Srl:    func(a, b uint32) uint32 { return shift(a, b, down) },
		api.Sra:    func(a, b uint32) uint32 { return shift(a, b, downSigned) },
		api.Or:     func(a, b uint32) uint32 { return ^(^a & ^b) },
		api.And:    func(a, b uint32) uint32 { return ^(^a | ^b) },
		api.Mul:    func(a, b uint32) uint32 { return low(new(big.Int).Mul(unsigned(a), unsigned(b))) },
		api.Mulh:   func(a, b uint32) uint32 { return upper(signed(a), signed(b)) },
		api.Mulhsu: func(a, b uint32) uint32 { return upper(signed(a), unsigned(b)) },
		api.Mulhu:  func(a, b uint32) uint32 { return upper(unsigned(a), unsigned(b)) },
		api.Div:    func(a, b uint32) uint32 { return quotient(signed(a), signed(b)) },
		api.Divu:   func(a, b uint32) uint32 { return quotient(unsigned(a), unsigned(b)) },
		api.Rem:    func(a, b uint32) uint32 { return remainder(signed(a), signed(b)) },
		api.Remu:   func(a, b uint32) uint32 { return remainder(unsigned(a), unsigned(b)) },
	}
	for op, plain := range withoutI() {
		l[op] = l[plain]
	}
	return l
}

// withoutI is for each of Addi to Srai the instruction without i.
func withoutI() map[int]int {
	return map[int]int{
		api.Addi: api.Add, api.Slti: api.Slt, api.Sltiu: api.Sltu, api.Xori: api.Xor, api.Ori: api.Or, api.Andi: api.And,
		api.Slli: api.Sll, api.Srli: api.Srl, api.Srai: api.Sra,
	}
}

// branches is what the chapter says that Taken gives, for each of its instructions.
func branches() map[int]func(a, b uint32) bool {
	return map[int]func(a, b uint32) bool{
		api.Beq:  func(a, b uint32) bool { return a-b == 0 },
		api.Bne:  func(a, b uint32) bool { return a-b != 0 },
		api.Blt:  func(a, b uint32) bool { return int32(a) < int32(b) },
		api.Bge:  func(a, b uint32) bool { return int32(a) >= int32(b) },
		api.Bltu: func(a, b uint32) bool { return a < b },
		api.Bgeu: func(a, b uint32) bool { return a >= b },
	}
}

// P4.1: each instruction that reckons, at every two of the numbers; of all others 0 and false.
func TestDo(t *testing.T) {
	l := reckons()
	for _, op := range allOps() {
		pairs(func(a, b uint32) {
			want, is := uint32(0), l[op] != nil
			if is {
				want = l[op](a, b)
			}
			if got, ok := alu.Do(op, a, b); got != want || ok != is {
				t.Errorf("Do(%d, %#x, %#x) is %#x %v, not %#x %v", op, a, b, got, ok, want, is)
			}
		})
	}
}

// P4.1: what the chapter says in so many words, in numbers.
func TestDoTold(t *testing.T) {
	for _, x := range []struct {
		op         int
		a, b, want uint32
	}{
		{api.Sra, lowestOf, 33, 0xC0000000},
		{api.Sll, 1, 33, 2}, {api.Slli, 1, 32, 1}, {api.Srl, lowestOf, 0xFFFFFFFF, 1}, {api.Srai, lowestOf, 31, ones},
		{api.Slt, ones, 0, 1}, {api.Sltu, ones, 0, 0}, {api.Slti, lowestOf, 0x7FFFFFFF, 1}, {api.Sltiu, 1, ones, 1},
		{api.Mul, 0x10000, 0x10000, 0}, {api.Mul, ones, ones, 1},
		{api.Mulh, ones, ones, 0}, {api.Mulhsu, ones, ones, ones}, {api.Mulhu, ones, ones, ones - 1},
		{api.Mulhsu, 2, ones, 1}, {api.Mulhsu, ones, 2, ones},
		{api.Div, lowestOf, ones, lowestOf}, {api.Rem, lowestOf, ones, 0},
		{api.Div, 7, 0, ones}, {api.Divu, 7, 0, ones}, {api.Rem, 7, 0, 7}, {api.Remu, ones, 0, ones},
		{api.Div, 0xFFFFFFF9, 2, 0xFFFFFFFD}, {api.Rem, 0xFFFFFFF9, 2, ones},
	} {
		if got, is := alu.Do(x.op, x.a, x.b); got != x.want || !is {
			t.Errorf("Do(%d, %#x, %#x) is %#x %v", x.op, x.a, x.b, got, is)
		}
	}
}

// P4.1: each branch at every two of the numbers; of all others twice false.
func TestTaken(t *testing.T) {
	l := branches()
	for _, op := range allOps() {
		pairs(func(a, b uint32) {
			is := l[op] != nil
			want := is && l[op](a, b)
			if got, ok := alu.Taken(op, a, b); got != want || ok != is {
				t.Errorf("Taken(%d, %#x, %#x) is %v %v, not %v %v", op, a, b, got, ok, want, is)
			}
		})
	}
}

// bytesOf is the bytes that each instruction reads or writes.
func bytesOf() map[int]int {
	return map[int]int{
		api.Lb: 1, api.Lbu: 1, api.Sb: 1, api.Lh: 2, api.Lhu: 2, api.Sh: 2, api.Lw: 4, api.Sw: 4, api.Lr: 4, api.Sc: 4,
		api.Swap: 4, api.AmoAdd: 4, api.AmoXor: 4, api.AmoAnd: 4, api.AmoOr: 4, api.Min: 4, api.Max: 4, api.Minu: 4, api.Maxu: 4,
	}
}

// P4.2: the bytes of what has to do with memory; of all others 0.
func TestSize(t *testing.T) {
	l := bytesOf()
	for _, op := range allOps() {
		if got := alu.Size(op); got != l[op] {
			t.Errorf("Size(%d) is %d, not %d", op, got, l[op])
		}
	}
}

// P4.2: Lb and Lh by their sign, what else reads a register's value as it is, with no more bytes than it has; of all others 0.
func TestExtend(t *testing.T) {
	for _, op := range allOps() {
		for _, raw := range numbers() {
			var want uint32
			switch op {
			case api.Lb:
				want = uint32(int32(int8(raw)))
			case api.Lh:
				want = uint32(int32(int16(raw)))
			case api.Lbu:
				want = uint32(uint8(raw))
			case api.Lhu:
				want = uint32(uint16(raw))
			case api.Lw, api.Lr, api.Swap, api.AmoAdd, api.AmoXor, api.AmoAnd, api.AmoOr, api.Min, api.Max, api.Minu, api.Maxu:
				want = raw
			}
			if got := alu.Extend(op, raw); got != want {
				t.Errorf("Extend(%d, %#x) is %#x, not %#x", op, raw, got, want)
			}
		}
	}
	if got := alu.Extend(api.Lb, 0x80); got != 0xFFFFFF80 {
		t.Errorf("the example: %#x", got)
	}
}

// P4.2: the bytes that Sb to Sw and Sc store; of all others 0, also of those that store what they reckon.
func TestCut(t *testing.T) {
	for _, op := range allOps() {
		for _, v := range numbers() {
			var want uint32
			switch op {
			case api.Sb:
				want = v % 0x100
			case api.Sh:
				want = v % 0x10000
			case api.Sw, api.Sc:
				want = v
			}
			if got := alu.Cut(op, v); got != want {
				t.Errorf("Cut(%d, %#x) is %#x, not %#x", op, v, got, want)
			}
		}
	}
}

// writes is what the chapter says that Amo gives, for each of its instructions.
func writes() map[int]func(old, b uint32) uint32 {
	return map[int]func(old, b uint32) uint32{
		api.Swap:   func(old, b uint32) uint32 { return b },
		api.AmoAdd: func(old, b uint32) uint32 { return low(new(big.Int).Add(signed(old), signed(b))) },
		api.AmoXor: func(old, b uint32) uint32 { return (old | b) - (old & b) },
		api.AmoAnd: func(old, b uint32) uint32 { return ^(^old | ^b) },
		api.AmoOr:  func(old, b uint32) uint32 { return ^(^old & ^b) },
		api.Min:    func(old, b uint32) uint32 { return uint32(min(int32(old), int32(b))) },
		api.Max:    func(old, b uint32) uint32 { return uint32(max(int32(old), int32(b))) },
		api.Minu:   func(old, b uint32) uint32 { return min(old, b) },
		api.Maxu:   func(old, b uint32) uint32 { return max(old, b) },
	}
}

// P4.2: each of Swap to Maxu at every two of the numbers; of all others, Lr and Sc among them, 0 and false.
func TestAmo(t *testing.T) {
	l := writes()
	for _, op := range allOps() {
		pairs(func(old, b uint32) {
			want, is := uint32(0), l[op] != nil
			if is {
				want = l[op](old, b)
			}
			if got, ok := alu.Amo(op, old, b); got != want || ok != is {
				t.Errorf("Amo(%d, %#x, %#x) is %#x %v, not %#x %v", op, old, b, got, ok, want, is)
			}
		})
	}
	if got, is := alu.Amo(api.Max, ones, 1); got != 1 || !is {
		t.Errorf("the example: %#x %v", got, is)
	}
}

// places is what pc and Imm are taken of: the ends of what wraps, odd ones too.
func places() []uint32 {
	return []uint32{0, 1, 2, 4, 7, 100, 0x5000, 0x7FFFFFFF, lowestOf, 0xFFFFF000, 0xFFFFFFF0, 0xFFFFFFFC, ones}
}

// goes calls f with op, and every pc and Imm of places and a few a and b. The fields that play no part are not 0.
func goes(op int, f func(i api.Inst, pc, a, b uint32)) {
	few := []uint32{0, 1, 2, 33, 0x7FFFFFFF, lowestOf, 0xFFFFFFFE, ones}
	for _, pc := range places() {
		for _, imm := range places() {
			for _, a := range few {
				for _, b := range few {
					f(api.Inst{Op: op, Rd: 3, Rs1: 5, Rs2: 7, CSR: 9, Imm: imm, Aq: true}, pc, a, b)
				}
			}
		}
	}
}

// result is what the chapter says that comes into Rd; l is reckons.
func result(l map[int]func(a, b uint32) uint32, i api.Inst, pc, a, b uint32) (uint32, bool) {
	switch {
	case i.Op == api.Lui:
		return i.Imm, true
	case i.Op == api.Auipc:
		return uint32(uint64(pc) + uint64(i.Imm)), true
	case i.Op == api.Jal, i.Op == api.Jalr:
		return uint32(uint64(pc) + 4), true
	case api.Addi <= i.Op && i.Op <= api.Srai:
		return l[i.Op](a, i.Imm), true
	case l[i.Op] != nil:
		return l[i.Op](a, b), true
	}
	return 0, false
}

// P4.3: what comes into Rd, of every instruction and of what is none, with pc, a and Imm that wrap.
func TestResult(t *testing.T) {
	l := reckons()
	for _, op := range allOps() {
		goes(op, func(i api.Inst, pc, a, b uint32) {
			want, is := result(l, i, pc, a, b)
			if got, ok := alu.Result(i, pc, a, b); got != want || ok != is {
				t.Errorf("Result(%v, %#x, %#x, %#x) is %#x %v, not %#x %v", i, pc, a, b, got, ok, want, is)
			}
		})
	}
}

// P4.3: where it goes on, of every instruction and of what is none, with pc, a and Imm that wrap.
func TestNext(t *testing.T) {
	l := branches()
	for _, op := range allOps() {
		goes(op, func(i api.Inst, pc, a, b uint32) {
			want := uint32((uint64(pc) + 4) % (1 << 32))
			switch {
			case op == api.Jal, l[op] != nil && l[op](a, b):
				want = uint32((uint64(pc) + uint64(i.Imm)) % (1 << 32))
			case op == api.Jalr:
				want = uint32((uint64(a)+uint64(i.Imm))%(1<<32)) / 2 * 2
			}
			if got := alu.Next(i, pc, a, b); got != want {
				t.Errorf("Next(%v, %#x, %#x, %#x) is %#x, not %#x", i, pc, a, b, got, want)
			}
		})
	}
}

// P4.3: the cases that the chapter tells apart, in numbers.
func TestGoesTold(t *testing.T) {
	for _, x := range []struct {
		i            api.Inst
		pc, a, b     uint32
		result, next uint32
		is           bool
	}{
		{api.Inst{Op: api.Lui, Imm: 0x5000}, 100, 1, 2, 0x5000, 104, true},
		{api.Inst{Op: api.Auipc, Imm: 0xFFFFF000}, 0x1008, 1, 2, 8, 0x100C, true},
		{api.Inst{Op: api.Jal, Imm: 0xFFFFFFF0}, 100, 1, 2, 104, 84, true},
		{api.Inst{Op: api.Jalr, Imm: 2}, 0xFFFFFFFC, ones, 2, 0, 0, true},
		{api.Inst{Op: api.Jalr, Imm: 6}, 100, 1, 2, 104, 6, true},
		{api.Inst{Op: api.Blt, Imm: 0xFFFFFFFC}, 100, ones, 0, 0, 96, false},
		{api.Inst{Op: api.Bltu, Imm: 0xFFFFFFFC}, 100, ones, 0, 0, 104, false},
		{api.Inst{Op: api.Addi, Imm: ones}, 0xFFFFFFFC, 1, 9, 0, 0, true},
		{api.Inst{Op: api.Srai, Imm: 4}, 0, lowestOf, 1, 0xF8000000, 4, true},
		{api.Inst{Op: api.Sub, Imm: 9}, 0, 1, 2, ones, 4, true},
		{api.Inst{Op: api.Remu}, 0, 7, 4, 3, 4, true},
		{api.Inst{Op: api.Lw, Imm: 8}, 0, 1, 2, 0, 4, false},
		{api.Inst{Op: api.Csrrwi, Imm: 8}, 0, 1, 2, 0, 4, false},
		{api.Inst{Op: api.AmoAdd}, 0, 1, 2, 0, 4, false},
		{api.Inst{Imm: 8}, 96, 1, 2, 0, 100, false},
	} {
		got, is := alu.Result(x.i, x.pc, x.a, x.b)
		if got != x.result || is != x.is {
			t.Errorf("Result(%v, %#x, %#x, %#x) is %#x %v", x.i, x.pc, x.a, x.b, got, is)
		}
		if next := alu.Next(x.i, x.pc, x.a, x.b); next != x.next {
			t.Errorf("Next(%v, %#x, %#x, %#x) is %#x", x.i, x.pc, x.a, x.b, next)
		}
	}
}

// The lists that the tests go by hold what the chapter names: nothing has been left out.
func TestLists(t *testing.T) {
	span := func(first, last int) []int {
		var l []int
		for op := first; op <= last; op++ {
			l = append(l, op)
		}
		return l
	}
	hold := func(name string, got, want []int) {
		slices.Sort(got)
		if !slices.Equal(got, want) {
			t.Errorf("%s: %v, not %v", name, got, want)
		}
	}
	hold("reckons", keys(reckons()), slices.Concat(span(api.Addi, api.And), span(api.Mul, api.Remu)))
	hold("branches", keys(branches()), span(api.Beq, api.Bgeu))
	hold("writes", keys(writes()), span(api.Swap, api.Maxu))
	hold("bytes", keys(bytesOf()), slices.Concat(span(api.Lb, api.Sw), span(api.Lr, api.Maxu)))
}

// keys is the keys of m.
func keys[V any](m map[int]V) []int {
	var l []int
	for k := range m {
		l = append(l, k)
	}
	return l
}
