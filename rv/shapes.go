package rv

// shapes returns the instructions of a format by their shapes: a shape is the
// word of an instruction whose registers, immediate and CSR are all 0. The map
// has one format's only, since it is made anew for each word.
func shapes(f format) map[uint32]byte {
	switch f {
	case upper:
		return map[uint32]byte{0x37: Lui, 0x17: Auipc}
	case jump:
		return map[uint32]byte{0x6f: Jal}
	case branch:
		return map[uint32]byte{
			0x0063: Beq, 0x1063: Bne, 0x4063: Blt,
			0x5063: Bge, 0x6063: Bltu, 0x7063: Bgeu,
		}
	case immediate:
		return map[uint32]byte{
			0x0067: Jalr,
			0x0003: Lb, 0x1003: Lh, 0x2003: Lw, 0x4003: Lbu, 0x5003: Lhu,
			0x0013: Addi, 0x2013: Slti, 0x3013: Sltiu,
			0x4013: Xori, 0x6013: Ori, 0x7013: Andi,
		}
	case shift:
		return map[uint32]byte{0x1013: Slli, 0x5013: Srli, 0x40005013: Srai}
	case store:
		return map[uint32]byte{0x0023: Sb, 0x1023: Sh, 0x2023: Sw}
	case register:
		return map[uint32]byte{
			0x00000033: Add, 0x40000033: Sub, 0x00001033: Sll,
			0x00002033: Slt, 0x00003033: Sltu, 0x00004033: Xor,
			0x00005033: Srl, 0x40005033: Sra, 0x00006033: Or, 0x00007033: And,
			0x02000033: Mul, 0x02001033: Mulh, 0x02002033: Mulhsu, 0x02003033: Mulhu,
			0x02004033: Div, 0x02005033: Divu, 0x02006033: Rem, 0x02007033: Remu,
		}
	case fence:
		return map[uint32]byte{0x000f: Fence}
	case alone:
		return map[uint32]byte{
			0x00000073: Ecall, 0x00100073: Ebreak, 0x30200073: Mret, 0x10500073: Wfi,
		}
	case csrByRegister:
		return map[uint32]byte{0x1073: Csrrw, 0x2073: Csrrs, 0x3073: Csrrc}
	case csrByImmediate:
		return map[uint32]byte{0x5073: Csrrwi, 0x6073: Csrrsi, 0x7073: Csrrci}
	}
	return nil
}

// shapeOf returns the format and the shape of an instruction, by its number.
// Each number has one shape in one format only.
func shapeOf(op byte) (format, uint32) {
	for f := range format(countOfFormats) {
		for shape, has := range shapes(f) {
			if has == op {
				return f, shape
			}
		}
	}
	return unknown, 0
}
