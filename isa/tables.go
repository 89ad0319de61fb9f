package isa

import "corral/api"

// codes is, for each instruction, its word where all fields that it uses are 0.
func codes() [api.Maxu + 1]uint32 {
	return [api.Maxu + 1]uint32{
		api.Lui: 0x37, api.Auipc: 0x17, api.Jal: 0x6F, api.Jalr: 0x67,

		api.Beq: 0x0063, api.Bne: 0x1063, api.Blt: 0x4063, api.Bge: 0x5063, api.Bltu: 0x6063, api.Bgeu: 0x7063,

		api.Lb: 0x0003, api.Lh: 0x1003, api.Lw: 0x2003, api.Lbu: 0x4003, api.Lhu: 0x5003,
		api.Sb: 0x0023, api.Sh: 0x1023, api.Sw: 0x2023,

		api.Addi: 0x0013, api.Slti: 0x2013, api.Sltiu: 0x3013, api.Xori: 0x4013, api.Ori: 0x6013, api.Andi: 0x7013,
		api.Slli: 0x1013, api.Srli: 0x5013, api.Srai: 0x40005013,

		api.Add: 0x0033, api.Sub: 0x40000033, api.Sll: 0x1033, api.Slt: 0x2033, api.Sltu: 0x3033,
		api.Xor: 0x4033, api.Srl: 0x5033, api.Sra: 0x40005033, api.Or: 0x6033, api.And: 0x7033,

		api.Mul: 0x02000033, api.Mulh: 0x02001033, api.Mulhsu: 0x02002033, api.Mulhu: 0x02003033,
		api.Div: 0x02004033, api.Divu: 0x02005033, api.Rem: 0x02006033, api.Remu: 0x02007033,

		api.Fence: 0x000F, api.FenceI: 0x100F,
		api.Ecall: 0x00000073, api.Ebreak: 0x00100073, api.Mret: 0x30200073, api.Wfi: 0x10500073,
		api.Sfence: 0x12000073,

		api.Csrrw: 0x1073, api.Csrrs: 0x2073, api.Csrrc: 0x3073,
		api.Csrrwi: 0x5073, api.Csrrsi: 0x6073, api.Csrrci: 0x7073,

		api.Lr: 0x1000202F, api.Sc: 0x1800202F, api.Swap: 0x0800202F, api.AmoAdd: 0x0000202F,
		api.AmoXor: 0x2000202F, api.AmoOr: 0x4000202F, api.AmoAnd: 0x6000202F,
		api.Min: 0x8000202F, api.Max: 0xA000202F, api.Minu: 0xC000202F, api.Maxu: 0xE000202F,
	}
}

// names is how each instruction is written.
func names() [api.Maxu + 1]string {
	return [api.Maxu + 1]string{
		api.Lui: "lui", api.Auipc: "auipc", api.Jal: "jal", api.Jalr: "jalr",

		api.Beq: "beq", api.Bne: "bne", api.Blt: "blt", api.Bge: "bge", api.Bltu: "bltu", api.Bgeu: "bgeu",

		api.Lb: "lb", api.Lh: "lh", api.Lw: "lw", api.Lbu: "lbu", api.Lhu: "lhu",
		api.Sb: "sb", api.Sh: "sh", api.Sw: "sw",

		api.Addi: "addi", api.Slti: "slti", api.Sltiu: "sltiu", api.Xori: "xori", api.Ori: "ori", api.Andi: "andi",
		api.Slli: "slli", api.Srli: "srli", api.Srai: "srai",

		api.Add: "add", api.Sub: "sub", api.Sll: "sll", api.Slt: "slt", api.Sltu: "sltu",
		api.Xor: "xor", api.Srl: "srl", api.Sra: "sra", api.Or: "or", api.And: "and",

		api.Mul: "mul", api.Mulh: "mulh", api.Mulhsu: "mulhsu", api.Mulhu: "mulhu",
		api.Div: "div", api.Divu: "divu", api.Rem: "rem", api.Remu: "remu",

		api.Fence: "fence", api.FenceI: "fence.i",
		api.Ecall: "ecall", api.Ebreak: "ebreak", api.Mret: "mret", api.Wfi: "wfi",
		api.Sfence: "sfence.vma",

		api.Csrrw: "csrrw", api.Csrrs: "csrrs", api.Csrrc: "csrrc",
		api.Csrrwi: "csrrwi", api.Csrrsi: "csrrsi", api.Csrrci: "csrrci",

		api.Lr: "lr.w", api.Sc: "sc.w", api.Swap: "amoswap.w", api.AmoAdd: "amoadd.w",
		api.AmoXor: "amoxor.w", api.AmoOr: "amoor.w", api.AmoAnd: "amoand.w",
		api.Min: "amomin.w", api.Max: "amomax.w", api.Minu: "amominu.w", api.Maxu: "amomaxu.w",
	}
}
