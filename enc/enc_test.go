package enc_test

import (
	"slices"
	"testing"

	"corral/enc"
)

const ones = 0xFFFFFFFF

// words are values with one bit set, one bit clear, at the edges between bits, and some without a pattern.
func words() []uint32 {
	l := []uint32{0, ones, 0xDEADBEEF, 0x12345678, 0xA5A5A5A5, 0x5A5A5A5A, 0xFE5144B3, 0x00500093}
	for n := range 32 {
		p := uint32(1) << n
		l = append(l, p, ^p, p-1, -p)
	}
	return l
}

// span is the bits high to low, as the chapter counts them down.
func span(high, low int) []int {
	var l []int
	for n := high; n >= low; n-- {
		l = append(l, n)
	}
	return l
}

// none stands for a bit of an immediate that is always 0.
const none = -1

// places are, for each format, the bits of a word that its immediate is made of, the highest first, as the chapter tells them.
func places() map[byte][]int {
	nothing := []int{none}
	return map[byte][]int{
		'I': span(31, 20),
		'S': slices.Concat(span(31, 25), span(11, 7)),
		'B': slices.Concat([]int{31, 7}, span(30, 25), span(11, 8), nothing),
		'U': slices.Concat(span(31, 12), slices.Repeat(nothing, 12)),
		'J': slices.Concat([]int{31}, span(19, 12), []int{20}, span(30, 21), nothing),
	}
}

// extended is the immediate of w, put together bit by bit.
func extended(w uint32, from []int) uint32 {
	imm := int64(0)
	for i, n := range from {
		bit := int64(0)
		if n != none {
			bit = int64(w>>n) & 1
		}
		if i == 0 { // The highest bit counts below 0.
			bit = -bit
		}
		imm = 2*imm + bit
	}
	return uint32(imm)
}

// held is the bits of a word that belong to the immediate.
func held(from []int) uint32 {
	var w uint32
	for _, n := range from {
		if n != none {
			w |= 1 << n
		}
	}
	return w
}

func TestSplitTable(t *testing.T) { // P2.1
	for _, x := range []struct {
		w    uint32
		want enc.Head
	}{
		{0, enc.Head{}},
		{ones, enc.Head{Opcode: 0x7F, Rd: 0x1F, F3: 7, Rs1: 0x1F, Rs2: 0x1F, F7: 0x7F}},
		{0x00500093, enc.Head{Opcode: 0x13, Rd: 1, Rs2: 5}},                          // addi x1, x0, 5
		{0x40B50533, enc.Head{Opcode: 0x33, Rd: 10, Rs1: 10, Rs2: 11, F7: 0x20}},     // sub x10, x10, x11
		{0x00112623, enc.Head{Opcode: 0x23, Rd: 12, F3: 2, Rs1: 2, Rs2: 1}},          // sw x1, 12(x2)
		{0xFE5144B3, enc.Head{Opcode: 0x33, Rd: 9, F3: 4, Rs1: 2, Rs2: 5, F7: 0x7F}}, // no instruction
		{0x0000007F, enc.Head{Opcode: 0x7F}}, {0x00000F80, enc.Head{Rd: 0x1F}},       // one field at a time
		{0x00007000, enc.Head{F3: 7}}, {0x000F8000, enc.Head{Rs1: 0x1F}},
		{0x01F00000, enc.Head{Rs2: 0x1F}}, {0xFE000000, enc.Head{F7: 0x7F}},
		{0x40, enc.Head{Opcode: 0x40}}, {0x80, enc.Head{Rd: 1}}, {0x800, enc.Head{Rd: 16}}, {0x1000, enc.Head{F3: 1}}, {0x4000, enc.Head{F3: 4}}, {0x8000, enc.Head{Rs1: 1}},
		{0x80000, enc.Head{Rs1: 16}}, {0x100000, enc.Head{Rs2: 1}}, {0x1000000, enc.Head{Rs2: 16}}, {0x2000000, enc.Head{F7: 1}}, {0x80000000, enc.Head{F7: 0x40}},
	} {
		if got := enc.Split(x.w); got != x.want {
			t.Errorf("Split(%#x): %+v, want %+v", x.w, got, x.want)
		}
		if got := enc.Join(x.want); got != x.w {
			t.Errorf("Join(%+v): %#x, want %#x", x.want, got, x.w)
		}
	}
}

func TestJoinOfSplit(t *testing.T) { // P2.1
	for _, w := range words() {
		if got := enc.Join(enc.Split(w)); got != w {
			t.Errorf("%#x: %#x", w, got)
		}
	}
}

// What a field has no room for goes, and reaches no other field.
func TestJoinCutsFields(t *testing.T) { // P2.1
	for _, x := range []struct {
		h    enc.Head
		want uint32
	}{
		{enc.Head{Opcode: ones}, 0x7F}, {enc.Head{Rd: ones}, 0xF80}, {enc.Head{F3: ones}, 0x7000}, {enc.Head{Rs1: ones}, 0xF8000}, {enc.Head{Rs2: ones}, 0x1F00000}, {enc.Head{F7: ones}, 0xFE000000},
		{enc.Head{Opcode: 0x80}, 0}, {enc.Head{Rd: 0x20}, 0}, {enc.Head{F3: 8}, 0}, {enc.Head{Rs1: 0x20}, 0}, {enc.Head{Rs2: 0x20}, 0}, {enc.Head{F7: 0x80}, 0},
		{enc.Head{Opcode: 0x93, Rd: 0x21, F3: 0xA, Rs1: 0x22, Rs2: 0x23, F7: 0xA0}, 0x40312093},
		{enc.Head{Opcode: ones, Rd: ones, F3: ones, Rs1: ones, Rs2: ones, F7: ones}, ones},
	} {
		if got := enc.Join(x.h); got != x.want {
			t.Errorf("Join(%+v): %#x, want %#x", x.h, got, x.want)
		}
	}
}

func TestImmTable(t *testing.T) { // P2.2
	for _, x := range []struct {
		format byte
		w, imm uint32
	}{
		{'I', 0xFFF00093, ones}, {'I', 0x00500093, 5}, {'I', 0x80000013, 0xFFFFF800}, {'I', 0x7FFFFFFF, 0x7FF}, {'I', 0x000FFFFF, 0},
		{'S', 0x00112623, 12}, {'S', 0xFE112E23, 0xFFFFFFFC}, {'S', 0x80000000, 0xFFFFF800}, {'S', 0x7E000F80, 0x7FF}, {'S', 0x01FFF07F, 0},
		{'B', 0x00208463, 8}, {'B', 0xFE209EE3, 0xFFFFFFFC}, {'B', 0x80000063, 0xFFFFF000}, {'B', 0x7E000FE3, 0xFFE}, {'B', 0x80, 0x800}, {'B', 0x01FFF07F, 0},
		{'U', 0x123450B7, 0x12345000}, {'U', 0xFFFFF037, 0xFFFFF000}, {'U', 0x80000037, 0x80000000}, {'U', 0x00000FFF, 0},
		{'J', 0x008000EF, 8}, {'J', 0xFFDFF06F, 0xFFFFFFFC}, {'J', 0x8000006F, 0xFFF00000}, {'J', 0x7FFFF06F, 0xFFFFE}, {'J', 0x00100000, 0x800}, {'J', 0x00000FFF, 0},
	} {
		if got := enc.Imm(x.format, x.w); got != x.imm {
			t.Errorf("Imm(%c, %#x): %#x, want %#x", x.format, x.w, got, x.imm)
		}
	}
}

func TestImmBitByBit(t *testing.T) { // P2.2
	for format, from := range places() {
		for _, w := range words() {
			if got, want := enc.Imm(format, w), extended(w, from); got != want {
				t.Errorf("Imm(%c, %#x): %#x, want %#x", format, w, got, want)
			}
		}
	}
}

// The bits that do not belong to the immediate do not reach it, and Lay sets none of them.
func TestLayOfImm(t *testing.T) { // P2.2
	for format, from := range places() {
		for _, w := range words() {
			imm, mine := enc.Imm(format, w), w&held(from)
			if got := enc.Imm(format, mine); got != imm {
				t.Errorf("Imm(%c, %#x): %#x, want %#x", format, mine, got, imm)
			}
			if got, is := enc.Lay(format, imm); got != mine || !is {
				t.Errorf("Lay(%c, %#x): %#x %v, want %#x", format, imm, got, is, mine)
			}
		}
	}
}

func TestLayTable(t *testing.T) { // P2.2
	for _, x := range []struct {
		format byte
		imm, w uint32
		is     bool
	}{
		{'I', 5, 0x00500000, true}, {'I', ones, 0xFFF00000, true}, {'I', 0x7FF, 0x7FF00000, true}, {'I', 0xFFFFF800, 0x80000000, true}, {'I', 0, 0, true},
		{'I', 0x800, 0, false}, {'I', 0xFFF, 0, false}, {'I', 0xFFFFF7FF, 0, false}, {'I', 0x80000000, 0, false}, {'I', 0x1000, 0, false},
		{'S', 12, 0x00000600, true}, {'S', 0x7FF, 0x7E000F80, true}, {'S', 0xFFFFF800, 0x80000000, true}, {'S', 0, 0, true},
		{'S', 0x800, 0, false}, {'S', 0xFFFFF7FF, 0, false}, {'S', 0x7FFFFFFF, 0, false},
		{'B', 8, 0x00000400, true}, {'B', 0xFFE, 0x7E000F80, true}, {'B', 0xFFFFF000, 0x80000000, true}, {'B', 0x800, 0x80, true}, {'B', 0, 0, true},
		{'B', 3, 0, false}, {'B', 1, 0, false}, {'B', ones, 0, false}, {'B', 0x1000, 0, false}, {'B', 0xFFFFEFFE, 0, false}, {'B', 0xFFFFF001, 0, false},
		{'U', 0x12345000, 0x12345000, true}, {'U', 0xFFFFF000, 0xFFFFF000, true}, {'U', 0x1000, 0x1000, true}, {'U', 0, 0, true},
		{'U', 1, 0, false}, {'U', 0x800, 0, false}, {'U', 0xFFF, 0, false}, {'U', ones, 0, false},
		{'J', 2048, 0x00100000, true}, {'J', 8, 0x00800000, true}, {'J', 0xFFFFE, 0x7FFFF000, true}, {'J', 0xFFF00000, 0x80000000, true}, {'J', 0xFF000, 0xFF000, true}, {'J', 0, 0, true},
		{'J', 1, 0, false}, {'J', ones, 0, false}, {'J', 0x100000, 0, false}, {'J', 0xFFEFFFFE, 0, false}, {'J', 0xFFF00001, 0, false},
	} {
		if got, is := enc.Lay(x.format, x.imm); got != x.w || is != x.is {
			t.Errorf("Lay(%c, %#x): %#x %v, want %#x %v", x.format, x.imm, got, is, x.w, x.is)
		}
	}
}

// Every number in and around the range of a format is laid, or refused, as the range says.
func TestLayHoldsItsRange(t *testing.T) { // P2.2
	for _, x := range []struct {
		format      byte
		below, step int
	}{{'I', 1 << 11, 1}, {'S', 1 << 11, 1}, {'B', 1 << 12, 2}, {'J', 1 << 20, 2}} {
		for n := -2 * x.below; n <= 2*x.below; n++ {
			is := n >= -x.below && n < x.below && n%x.step == 0
			w, got := enc.Lay(x.format, uint32(n))
			if got != is || !is && w != 0 || is && enc.Imm(x.format, w) != uint32(n) {
				t.Fatalf("Lay(%c, %d): %#x %v", x.format, n, w, got)
			}
		}
	}
	for n := range uint32(1 << 13) {
		for _, imm := range []uint32{n, -n, 0x80000000 + n, 0x80000000 - n} {
			is := imm%4096 == 0
			if w, got := enc.Lay('U', imm); got != is || is && w != imm || !is && w != 0 {
				t.Fatalf("Lay(U, %#x): %#x %v", imm, w, got)
			}
		}
	}
}

func TestNoOtherFormat(t *testing.T) { // P2.2
	known := places()
	for n := range 256 {
		format := byte(n)
		if _, is := known[format]; is {
			continue
		}
		for _, w := range words() {
			if got := enc.Imm(format, w); got != 0 {
				t.Errorf("Imm(%d, %#x): %#x", format, w, got)
			}
			if got, is := enc.Lay(format, w); got != 0 || is {
				t.Errorf("Lay(%d, %#x): %#x %v", format, w, got, is)
			}
		}
	}
}
