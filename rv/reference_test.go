package rv_test

import (
	"strconv"
	"strings"

	"curtilage/rv"
)

// patterns has the words of the instructions as the specification's tables
// have them, from the highest bit down, in the order of the document's Ops:
// digits are bits that are so, and dots bits that do not matter.
var patterns = []string{
	"lui imm[31:12] rd 0110111",
	"auipc imm[31:12] rd 0010111",
	"jal imm[20|10:1|11|19:12] rd 1101111",
	"jalr imm[11:0] rs1 000 rd 1100111",
	"beq imm[12|10:5] rs2 rs1 000 imm[4:1|11] 1100011",
	"bne imm[12|10:5] rs2 rs1 001 imm[4:1|11] 1100011",
	"blt imm[12|10:5] rs2 rs1 100 imm[4:1|11] 1100011",
	"bge imm[12|10:5] rs2 rs1 101 imm[4:1|11] 1100011",
	"bltu imm[12|10:5] rs2 rs1 110 imm[4:1|11] 1100011",
	"bgeu imm[12|10:5] rs2 rs1 111 imm[4:1|11] 1100011",
	"lb imm[11:0] rs1 000 rd 0000011",
	"lh imm[11:0] rs1 001 rd 0000011",
	"lw imm[11:0] rs1 010 rd 0000011",
	"lbu imm[11:0] rs1 100 rd 0000011",
	"lhu imm[11:0] rs1 101 rd 0000011",
	"sb imm[11:5] rs2 rs1 000 imm[4:0] 0100011",
	"sh imm[11:5] rs2 rs1 001 imm[4:0] 0100011",
	"sw imm[11:5] rs2 rs1 010 imm[4:0] 0100011",
	"addi imm[11:0] rs1 000 rd 0010011",
	"slti imm[11:0] rs1 010 rd 0010011",
	"sltiu imm[11:0] rs1 011 rd 0010011",
	"xori imm[11:0] rs1 100 rd 0010011",
	"ori imm[11:0] rs1 110 rd 0010011",
	"andi imm[11:0] rs1 111 rd 0010011",
	"slli 0000000 shamt rs1 001 rd 0010011",
	"srli 0000000 shamt rs1 101 rd 0010011",
	"srai 0100000 shamt rs1 101 rd 0010011",
	"add 0000000 rs2 rs1 000 rd 0110011",
	"sub 0100000 rs2 rs1 000 rd 0110011",
	"sll 0000000 rs2 rs1 001 rd 0110011",
	"slt 0000000 rs2 rs1 010 rd 0110011",
	"sltu 0000000 rs2 rs1 011 rd 0110011",
	"xor 0000000 rs2 rs1 100 rd 0110011",
	"srl 0000000 rs2 rs1 101 rd 0110011",
	"sra 0100000 rs2 rs1 101 rd 0110011",
	"or 0000000 rs2 rs1 110 rd 0110011",
	"and 0000000 rs2 rs1 111 rd 0110011",
	"fence ................. 000 ..... 0001111",
	"ecall 000000000000 00000 000 00000 1110011",
	"ebreak 000000000001 00000 000 00000 1110011",
	"mret 0011000 00010 00000 000 00000 1110011",
	"wfi 0001000 00101 00000 000 00000 1110011",
	"csrrw csr rs1 001 rd 1110011",
	"csrrs csr rs1 010 rd 1110011",
	"csrrc csr rs1 011 rd 1110011",
	"csrrwi csr uimm 101 rd 1110011",
	"csrrsi csr uimm 110 rd 1110011",
	"csrrci csr uimm 111 rd 1110011",
	"mul 0000001 rs2 rs1 000 rd 0110011",
	"mulh 0000001 rs2 rs1 001 rd 0110011",
	"mulhsu 0000001 rs2 rs1 010 rd 0110011",
	"mulhu 0000001 rs2 rs1 011 rd 0110011",
	"div 0000001 rs2 rs1 100 rd 0110011",
	"divu 0000001 rs2 rs1 101 rd 0110011",
	"rem 0000001 rs2 rs1 110 rd 0110011",
	"remu 0000001 rs2 rs1 111 rd 0110011",
}

// place is a bit of a field.
type place struct {
	field string
	bit   int
}

// pattern is one of the patterns, bit by bit.
type pattern struct {
	name      string
	fixed     uint32
	mask      uint32    // the fixed bits
	places    [32]place // where the others belong
	low, high int       // the bits that an immediate has
}

// parsed has the patterns, bit by bit. That of Op 1 is the first one.
var parsed = func() []pattern {
	var l []pattern
	for _, text := range patterns {
		l = append(l, parse(text))
	}
	return l
}()

// patternOf returns the pattern of an Op.
func patternOf(op byte) (pattern, bool) {
	if op < 1 || int(op) > len(parsed) {
		return pattern{}, false
	}
	return parsed[op-1], true
}

// parse reads a pattern.
func parse(text string) pattern {
	words := strings.Fields(text)
	p := pattern{name: words[0], low: 32, high: -1}
	at := 31
	for _, word := range words[1:] {
		for _, x := range spread(word) {
			p = p.with(at, x)
			at--
		}
	}
	if at != -1 {
		panic("not 32 bits: " + text)
	}
	return p
}

// with returns the pattern with what a bit of its word is.
func (p pattern) with(at int, x place) pattern {
	switch x.field {
	case "0", "1":
		p.mask |= 1 << at
		p.fixed |= uint32(x.field[0]-'0') << at
	default:
		p.places[at] = x
	}
	if x.field == "imm" {
		p.low, p.high = min(p.low, x.bit), max(p.high, x.bit)
	}
	return p
}

// spread returns the bits of one word of a pattern.
func spread(word string) []place {
	sizes := map[string]int{"rd": 5, "rs1": 5, "rs2": 5, "shamt": 5, "uimm": 5, "csr": 12}
	var l []place
	if bits, ok := strings.CutPrefix(word, "imm["); ok {
		for part := range strings.SplitSeq(strings.TrimSuffix(bits, "]"), "|") {
			first, last, found := strings.Cut(part, ":")
			if !found {
				last = first
			}
			from, _ := strconv.Atoi(first)
			to, _ := strconv.Atoi(last)
			for bit := from; bit >= to; bit-- {
				l = append(l, place{"imm", bit})
			}
		}
	} else if size, ok := sizes[word]; ok {
		for bit := size - 1; bit >= 0; bit-- {
			l = append(l, place{word, bit})
		}
	} else {
		for _, digit := range word {
			l = append(l, place{field: string(digit)})
		}
	}
	return l
}

// has tells whether the pattern has a field.
func (p pattern) has(field string) bool {
	for _, x := range p.places {
		if x.field == field {
			return true
		}
	}
	return false
}

// read returns the instruction of a word that has the pattern.
func (p pattern) read(op byte, w uint32) rv.Inst {
	fields := map[string]uint32{}
	for at, x := range p.places {
		fields[x.field] |= w >> at & 1 << x.bit
	}
	imm := fields["imm"] | fields["shamt"] | fields["uimm"]
	if p.high >= 0 && imm>>p.high&1 != 0 {
		for bit := p.high; bit < 32; bit++ {
			imm |= 1 << bit
		}
	}
	return rv.Inst{Op: op, Rd: byte(fields["rd"]), A: byte(fields["rs1"]), B: byte(fields["rs2"]), Imm: imm, Csr: uint16(fields["csr"])}
}

// decode is the document's Decode, by the patterns.
func decode(w uint32) (rv.Inst, bool) {
	for i, p := range parsed {
		if w&p.mask == p.fixed {
			return p.read(byte(i+1), w), true
		}
	}
	return rv.Inst{}, false
}

// encodable tells whether an instruction has a word, by what its fields can
// hold.
func encodable(i rv.Inst) bool {
	p, ok := patternOf(i.Op)
	return ok && holds(p.has("rd"), uint32(i.Rd), 32) && holds(p.has("rs1"), uint32(i.A), 32) &&
		holds(p.has("rs2"), uint32(i.B), 32) && holds(p.has("csr"), uint32(i.Csr), 4096) && p.holdsImm(i.Imm)
}

// holds tells whether a field, if there is one, can hold a value.
func holds(has bool, value, limit uint32) bool {
	return value == 0 || has && value < limit
}

// holdsImm tells whether the immediate can have a value.
func (p pattern) holdsImm(v uint32) bool {
	if p.high < 0 {
		return holds(p.has("shamt") || p.has("uimm"), v, 32)
	}
	signed, limit := int64(int32(v)), int64(1)<<p.high
	return signed >= -limit && signed < limit && signed%(1<<p.low) == 0
}

// encode is the document's Encode, with 0 where a bit does not matter.
func encode(i rv.Inst) (uint32, bool) {
	if !encodable(i) {
		return 0, false
	}
	fields := map[string]uint32{"rd": uint32(i.Rd), "rs1": uint32(i.A), "rs2": uint32(i.B), "csr": uint32(i.Csr), "imm": i.Imm, "shamt": i.Imm, "uimm": i.Imm}
	p, _ := patternOf(i.Op)
	w := p.fixed
	for at, x := range p.places {
		w |= fields[x.field] >> x.bit & 1 << at
	}
	return w, true
}
