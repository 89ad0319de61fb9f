package asm

import (
	"strconv"
	"strings"

	"corral/api"
	"corral/isa"
	"corral/word"
)

// The parts of a form.
const (
	rd    = 'd'
	rs1   = '1'
	rs2   = '2'
	csr   = 'c'
	imm   = 'i' // with its sign: where Imm has none, it is too small to show one
	upper = 'u' // Imm's upper 20 bits
	pred  = 'p' // Imm's bits 7 to 4
	succ  = 's' // Imm's bits 3 to 0
)

// The kinds of package isa that have one form each, but for Lr.
const (
	branches = 3
	loads    = 4
	stores   = 5
	both     = 6
)

// formOf is how the parts of op are written, a letter where a part stands; nothing where it has none.
func formOf(op int) string {
	switch op {
	case api.Lui, api.Auipc:
		return "d, u"
	case api.Jal:
		return "d, i"
	case api.Jalr:
		return "d, i(1)"
	case api.Fence:
		return "p, s"
	case api.Sfence:
		return "1, 2"
	case api.Csrrw, api.Csrrs, api.Csrrc:
		return "d, c, 1"
	case api.Csrrwi, api.Csrrsi, api.Csrrci:
		return "d, c, i"
	case api.Lr:
		return "d, (1)"
	}
	return formOfKind(op)
}

// formOfKind is formOf of those that are written like all of their kind.
func formOfKind(op int) string {
	switch isa.Kind(op) {
	case branches:
		return "1, 2, i"
	case loads:
		return "d, i(1)"
	case stores:
		return "2, i(1)"
	case both:
		return "d, 2, (1)"
	}
	// What is left reckons of Rs1 and one thing more, or has no parts.
	_, _, hasRs2, hasImm := isa.Uses(op)
	switch {
	case hasImm:
		return "d, 1, i"
	case hasRs2:
		return "d, 1, 2"
	}
	return ""
}

// between tells whether c stands between the parts of a form.
func between(c rune) bool { return strings.ContainsRune(" ,()", c) }

// text is how i is written, which has to be one that has a word.
func text(i api.Inst) string {
	var b strings.Builder
	b.WriteString(isa.Name(i.Op))
	if i.Aq {
		b.WriteString(".aq")
	}
	if i.Rl {
		b.WriteString(".rl")
	}
	form := formOf(i.Op)
	if form != "" {
		b.WriteByte(' ')
	}
	for _, c := range form {
		if between(c) {
			b.WriteRune(c)
		} else {
			b.WriteString(part(i, c))
		}
	}
	return b.String()
}

// part is how a part of i is written.
func part(i api.Inst, c rune) string {
	switch c {
	case rd:
		return register(i.Rd)
	case rs1:
		return register(i.Rs1)
	case rs2:
		return register(i.Rs2)
	case csr:
		return hexadecimal(uint32(i.CSR), 3)
	case imm:
		return decimal(i.Imm)
	case upper:
		return decimal(word.Bits(i.Imm, 12, 20))
	case pred:
		return decimal(word.Bits(i.Imm, 4, 4))
	case succ:
		return decimal(word.Bits(i.Imm, 0, 4))
	}
	return ""
}

// register is how a register is written.
func register(n int) string { return "x" + strconv.Itoa(n) }

// decimal is how x is written, taken with its sign.
func decimal(x uint32) string { return strconv.Itoa(int(int32(x))) }

// read is what s says, taken loosely: whoever calls it holds s against the text of what was read.
func read(s string) api.Inst {
	var i api.Inst
	name, rest, _ := strings.Cut(s, " ")
	name, i.Rl = strings.CutSuffix(name, ".rl")
	name, i.Aq = strings.CutSuffix(name, ".aq")
	i.Op = isa.Op(name)
	for _, c := range formOf(i.Op) {
		if between(c) {
			rest = strings.TrimPrefix(rest, string(c))
			continue
		}
		end := partEnd(rest)
		put(&i, c, number(rest[:end]))
		rest = rest[end:]
	}
	return i
}

// partEnd is where the part ends that s begins with.
func partEnd(s string) int {
	if end := strings.IndexFunc(s, between); end >= 0 {
		return end
	}
	return len(s)
}

// number is the number of a part.
func number(s string) int64 {
	// Of base 0 a number is hexadecimal behind 0x, as a register of control is written, else decimal. What is no number need not be told here: whatever it is taken for is written otherwise.
	n, _ := strconv.ParseInt(strings.TrimPrefix(s, "x"), 0, 64)
	return n
}

// put sets a part of i to n.
func put(i *api.Inst, c rune, n int64) {
	switch c {
	case rd:
		i.Rd = int(n)
	case rs1:
		i.Rs1 = int(n)
	case rs2:
		i.Rs2 = int(n)
	case csr:
		i.CSR = int(n)
	case imm:
		i.Imm = uint32(n)
	case upper:
		i.Imm = word.Left(uint32(n), 12)
	case pred:
		i.Imm = word.Left(uint32(n), 4)
	case succ:
		// It stands behind pred, and shares Imm with it.
		i.Imm |= uint32(n)
	}
}
