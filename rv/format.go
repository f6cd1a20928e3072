package rv

// The fields of a word; the specification calls kind funct3, and rest funct7.
// Immediates lie elsewhere in each format.
const (
	opcodeField = 0x7f
	rdField     = 0x1f << rdAt
	kindField   = 7 << kindAt
	aField      = 0x1f << aAt
	bField      = 0x1f << bAt
	csrField    = 0xfff << csrAt
	restField   = 0x7f << 25
)

// The lowest bits of the fields.
const (
	rdAt   = 7
	kindAt = 12
	aAt    = 15
	bAt    = 20
	csrAt  = 20
)

// The opcodes, by the names that the specification has for them.
const (
	opLoad    = 0x03
	opMiscMem = 0x0f
	opImm     = 0x13
	opAuipc   = 0x17
	opStore   = 0x23
	opReg     = 0x33
	opLui     = 0x37
	opBranch  = 0x63
	opJalr    = 0x67
	opJal     = 0x6f
	opSystem  = 0x73
)

// format is what the words of some instructions have in common.
type format int

// The formats.
const (
	unknown        format = iota
	upper                 // with the upper bits of an immediate
	jump                  // with a distance, and a register for the way back
	branch                // with a distance, and two registers that are compared
	immediate             // with a register and an immediate
	shift                 // with a register and an amount
	store                 // with two registers and an immediate
	register              // with registers only
	fence                 // with bits that do not matter
	alone                 // with nothing: one word each
	csrByRegister         // with a CSR and a register
	csrByImmediate        // with a CSR and an immediate
	countOfFormats = iota
)

// run is some bits of an immediate which lie side by side in the word, too.
type run struct {
	at   uint8 // the lowest one's place in the word
	to   uint8 // and in the immediate
	size uint8
}

// layout tells where the words of a format have what.
type layout struct {
	shape         uint32 // the bits that tell one instruction from another
	rd, a, b, csr uint32 // the fields, or 0 where there is none
	runs          [4]run
	signs         uint8 // how many upper bits of the immediate are its sign again
}

// layoutOf returns the layout of a format.
func layoutOf(f format) layout {
	switch f {
	case upper:
		return layout{
			shape: opcodeField, rd: rdField,
			runs: [4]run{{12, 12, 20}},
		}
	case jump:
		return layout{
			shape: opcodeField, rd: rdField,
			runs: [4]run{{31, 20, 1}, {12, 12, 8}, {20, 11, 1}, {21, 1, 10}}, signs: 11,
		}
	case branch:
		return layout{
			shape: opcodeField | kindField, a: aField, b: bField,
			runs: [4]run{{31, 12, 1}, {7, 11, 1}, {25, 5, 6}, {8, 1, 4}}, signs: 19,
		}
	case immediate:
		return layout{
			shape: opcodeField | kindField, rd: rdField, a: aField,
			runs: [4]run{{20, 0, 12}}, signs: 20,
		}
	case shift:
		return layout{
			shape: opcodeField | kindField | restField, rd: rdField, a: aField,
			runs: [4]run{{20, 0, 5}},
		}
	case store:
		return layout{
			shape: opcodeField | kindField, a: aField, b: bField,
			runs: [4]run{{25, 5, 7}, {7, 0, 5}}, signs: 20,
		}
	case register:
		return layout{
			shape: opcodeField | kindField | restField, rd: rdField, a: aField, b: bField,
		}
	case fence:
		return layout{shape: opcodeField | kindField}
	case alone:
		return layout{shape: 0xffffffff}
	case csrByRegister:
		return layout{
			shape: opcodeField | kindField, rd: rdField, a: aField, csr: csrField,
		}
	case csrByImmediate:
		return layout{
			shape: opcodeField | kindField, rd: rdField, csr: csrField,
			runs: [4]run{{15, 0, 5}},
		}
	}
	return layout{}
}

// formatOf returns the format that a word has if there is an instruction of it.
func formatOf(w uint32) format {
	kind := w & kindField >> kindAt
	switch w & opcodeField {
	case opLui, opAuipc:
		return upper
	case opJal:
		return jump
	case opBranch:
		return branch
	case opJalr, opLoad:
		return immediate
	case opImm:
		if kind == 1 || kind == 5 {
			return shift
		}
		return immediate
	case opStore:
		return store
	case opReg:
		return register
	case opMiscMem:
		return fence
	case opSystem:
		return systemFormat(kind)
	}
	return unknown
}

// systemFormat returns the format of the opcode that has three of them.
func systemFormat(kind uint32) format {
	switch {
	case kind == 0:
		return alone
	case kind < 4:
		return csrByRegister
	}
	return csrByImmediate
}

// read returns the instruction of a word, whose number is known.
func (l layout) read(op byte, w uint32) Inst {
	return Inst{
		Op:  op,
		Rd:  byte(w & l.rd >> rdAt),
		A:   byte(w & l.a >> aAt),
		B:   byte(w & l.b >> bAt),
		Imm: l.immediate(w),
		Csr: uint16(w & l.csr >> csrAt),
	}
}

// immediate returns the immediate of a word.
func (l layout) immediate(w uint32) uint32 {
	var v uint32
	for _, r := range l.runs {
		v |= w >> r.at & r.mask() << r.to
	}
	return uint32(int32(v<<l.signs) >> l.signs)
}

// write returns the bits of a word which are not of its shape. They are right
// only if the instruction has no more than the format has fields for.
func (l layout) write(i Inst) uint32 {
	w := uint32(i.Rd)<<rdAt | uint32(i.A)<<aAt | uint32(i.B)<<bAt | uint32(i.Csr)<<csrAt
	for _, r := range l.runs {
		w |= i.Imm >> r.to & r.mask() << r.at
	}
	return w
}

// mask returns as many low bits as the run has.
func (r run) mask() uint32 { return 1<<r.size - 1 }
