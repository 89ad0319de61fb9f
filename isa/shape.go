package isa

import (
	"corral/api"
	"corral/enc"
	"corral/word"
)

// The bits of a word by which instructions are told apart.
const (
	opcodeBits = 0x0000007F
	rdBits     = 0x00000F80
	f3Bits     = 0x00007000
	rs2Bits    = 0x01F00000
	f7Bits     = 0xFE000000
	amoBits    = 0xF8000000 // F7 without Aq and Rl
	allBits    = 0xFFFFFFFF
	fenceBits  = 0x0FF00000 // its Imm
)

// shape is what the words of like instructions have in common. Every bit of a word is either fixed or of a field that is used: so a word can be read and laid again without loss.
type shape struct {
	fixed                    uint32
	rd, rs1, rs2, csr, order bool
	format                   byte // of Imm, if package enc knows it
	low, size                int  // of Imm, if it is a field as it stands: its bits, from bit low on
}

// shapeOf is the shape of op; nothing is used by what is no instruction.
func shapeOf(op int) shape {
	switch {
	case op == api.Lui, op == api.Auipc:
		return shape{fixed: opcodeBits, rd: true, format: 'U'}
	case op == api.Jal:
		return shape{fixed: opcodeBits, rd: true, format: 'J'}
	case op == api.Jalr, from(api.Lb, op, api.Lhu), from(api.Addi, op, api.Andi):
		return shape{fixed: opcodeBits | f3Bits, rd: true, rs1: true, format: 'I'}
	case from(api.Beq, op, api.Bgeu):
		return shape{fixed: opcodeBits | f3Bits, rs1: true, rs2: true, format: 'B'}
	case from(api.Sb, op, api.Sw):
		return shape{fixed: opcodeBits | f3Bits, rs1: true, rs2: true, format: 'S'}
	case from(api.Slli, op, api.Srai):
		return shape{fixed: opcodeBits | f3Bits | f7Bits, rd: true, rs1: true, low: 20, size: 5}
	case from(api.Add, op, api.And), from(api.Mul, op, api.Remu):
		return shape{fixed: opcodeBits | f3Bits | f7Bits, rd: true, rs1: true, rs2: true}
	case op == api.Fence:
		return shape{fixed: allBits &^ fenceBits, low: 20, size: 8}
	case from(api.FenceI, op, api.Wfi):
		return shape{fixed: allBits}
	case op == api.Sfence:
		return shape{fixed: opcodeBits | f3Bits | f7Bits | rdBits, rs1: true, rs2: true}
	case from(api.Csrrw, op, api.Csrrc):
		return shape{fixed: opcodeBits | f3Bits, rd: true, rs1: true, csr: true}
	case from(api.Csrrwi, op, api.Csrrci):
		return shape{fixed: opcodeBits | f3Bits, rd: true, csr: true, low: 15, size: 5}
	case op == api.Lr:
		return shape{fixed: opcodeBits | f3Bits | amoBits | rs2Bits, rd: true, rs1: true, order: true}
	case from(api.Sc, op, api.Maxu):
		return shape{fixed: opcodeBits | f3Bits | amoBits, rd: true, rs1: true, rs2: true, order: true}
	}
	return shape{}
}

// hasImm tells whether the instruction uses Imm.
func (s shape) hasImm() bool { return s.format != 0 || s.size > 0 }

// imm is the Imm of w.
func (s shape) imm(w uint32) uint32 {
	if s.size > 0 {
		return word.Bits(w, s.low, s.size)
	}
	return enc.Imm(s.format, w)
}

// layImm is the word with this Imm, and nothing else; false where it has no room. An Imm that is not used is not asked for its room: it is a fault of another kind.
func (s shape) layImm(imm uint32) (uint32, bool) {
	if !s.hasImm() {
		return 0, true
	}
	if s.size > 0 {
		w := word.Pack(word.Field{Low: s.low, N: s.size, V: imm})
		return w, s.imm(w) == imm
	}
	return enc.Lay(s.format, imm)
}

// read is the instruction op with the fields that w has.
func (s shape) read(op int, w uint32) api.Inst {
	h := enc.Split(w)
	return s.only(api.Inst{
		Op:  op,
		Rd:  int(h.Rd),
		Rs1: int(h.Rs1),
		Rs2: int(h.Rs2),
		CSR: int(word.Bits(w, 20, 12)),
		Imm: s.imm(w),
		Aq:  word.Bits(w, 26, 1) == 1,
		Rl:  word.Bits(w, 25, 1) == 1,
	})
}

// only is i without the fields that are not used.
func (s shape) only(i api.Inst) api.Inst {
	if !s.rd {
		i.Rd = 0
	}
	if !s.rs1 {
		i.Rs1 = 0
	}
	if !s.rs2 {
		i.Rs2 = 0
	}
	if !s.csr {
		i.CSR = 0
	}
	if !s.hasImm() {
		i.Imm = 0
	}
	if !s.order {
		i.Aq, i.Rl = false, false
	}
	return i
}
