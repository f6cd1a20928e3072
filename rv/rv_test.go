package rv_test

import (
	"bytes"
	"encoding/binary"
	"math"
	"math/rand"
	"testing"

	"curtilage/rv"
)

// known has what another program, the GNU assembler, made of instructions that
// were written as texts.
var known = []struct {
	w uint32
	i rv.Inst
}{
	{0x000000b7, rv.Inst{Op: rv.Lui, Rd: 1}},
	{0xffffffb7, rv.Inst{Op: rv.Lui, Rd: 31, Imm: 0xfffff000}},
	{0x12345537, rv.Inst{Op: rv.Lui, Rd: 10, Imm: 0x12345000}},
	{0x800002b7, rv.Inst{Op: rv.Lui, Rd: 5, Imm: 0x80000000}},
	{0x00001017, rv.Inst{Op: rv.Auipc, Imm: 0x1000}},
	{0x80001397, rv.Inst{Op: rv.Auipc, Rd: 7, Imm: 0x80001000}},
	{0x000000ef, rv.Inst{Op: rv.Jal, Rd: 1}},
	{0x0040006f, rv.Inst{Op: rv.Jal, Imm: 4}},
	{0xffdfffef, rv.Inst{Op: rv.Jal, Rd: 31, Imm: 0xfffffffc}},
	{0x7ffff0ef, rv.Inst{Op: rv.Jal, Rd: 1, Imm: 0xffffe}},
	{0x8000016f, rv.Inst{Op: rv.Jal, Rd: 2, Imm: 0xfff00000}},
	{0x001001ef, rv.Inst{Op: rv.Jal, Rd: 3, Imm: 0x800}},
	{0x0000126f, rv.Inst{Op: rv.Jal, Rd: 4, Imm: 0x1000}},
	{0x801ff2ef, rv.Inst{Op: rv.Jal, Rd: 5, Imm: 0xfffff800}},
	{0x5545536f, rv.Inst{Op: rv.Jal, Rd: 6, Imm: 0x55554}},
	{0x000100e7, rv.Inst{Op: rv.Jalr, Rd: 1, A: 2}},
	{0xfff08067, rv.Inst{Op: rv.Jalr, A: 1, Imm: 0xffffffff}},
	{0x7fff0fe7, rv.Inst{Op: rv.Jalr, Rd: 31, A: 30, Imm: 0x7ff}},
	{0x800302e7, rv.Inst{Op: rv.Jalr, Rd: 5, A: 6, Imm: 0xfffff800}},
	{0x00208063, rv.Inst{Op: rv.Beq, A: 1, B: 2}},
	{0x800f8063, rv.Inst{Op: rv.Beq, A: 31, Imm: 0xfffff000}},
	{0x7e419fe3, rv.Inst{Op: rv.Bne, A: 3, B: 4, Imm: 0xffe}},
	{0xfe629fe3, rv.Inst{Op: rv.Bne, A: 5, B: 6, Imm: 0xfffffffe}},
	{0x0083c0e3, rv.Inst{Op: rv.Blt, A: 7, B: 8, Imm: 0x800}},
	{0x80a4c0e3, rv.Inst{Op: rv.Blt, A: 9, B: 10, Imm: 0xfffff800}},
	{0x00c5d863, rv.Inst{Op: rv.Bge, A: 11, B: 12, Imm: 0x10}},
	{0xfee6d0e3, rv.Inst{Op: rv.Bge, A: 13, B: 14, Imm: 0xffffffe0}},
	{0x5507ea63, rv.Inst{Op: rv.Bltu, A: 15, B: 16, Imm: 0x554}},
	{0xab28e5e3, rv.Inst{Op: rv.Bltu, A: 17, B: 18, Imm: 0xfffffaaa}},
	{0x4149f063, rv.Inst{Op: rv.Bgeu, A: 19, B: 20, Imm: 0x400}},
	{0x016aff63, rv.Inst{Op: rv.Bgeu, A: 21, B: 22, Imm: 0x1e}},
	{0x00010083, rv.Inst{Op: rv.Lb, Rd: 1, A: 2}},
	{0xffff0f83, rv.Inst{Op: rv.Lb, Rd: 31, A: 30, Imm: 0xffffffff}},
	{0x7ff21183, rv.Inst{Op: rv.Lh, Rd: 3, A: 4, Imm: 0x7ff}},
	{0x80032283, rv.Inst{Op: rv.Lw, Rd: 5, A: 6, Imm: 0xfffff800}},
	{0x00812503, rv.Inst{Op: rv.Lw, Rd: 10, A: 2, Imm: 8}},
	{0x55544383, rv.Inst{Op: rv.Lbu, Rd: 7, A: 8, Imm: 0x555}},
	{0xaaa55483, rv.Inst{Op: rv.Lhu, Rd: 9, A: 10, Imm: 0xfffffaaa}},
	{0x00110023, rv.Inst{Op: rv.Sb, A: 2, B: 1}},
	{0xffff0fa3, rv.Inst{Op: rv.Sb, A: 30, B: 31, Imm: 0xffffffff}},
	{0x7e321fa3, rv.Inst{Op: rv.Sh, A: 4, B: 3, Imm: 0x7ff}},
	{0x80532023, rv.Inst{Op: rv.Sw, A: 6, B: 5, Imm: 0xfffff800}},
	{0x00112623, rv.Inst{Op: rv.Sw, A: 2, B: 1, Imm: 0xc}},
	{0x54742aa3, rv.Inst{Op: rv.Sw, A: 8, B: 7, Imm: 0x555}},
	{0x00950fa3, rv.Inst{Op: rv.Sb, A: 10, B: 9, Imm: 0x1f}},
	{0x02b61023, rv.Inst{Op: rv.Sh, A: 12, B: 11, Imm: 0x20}},
	{0x00100093, rv.Inst{Op: rv.Addi, Rd: 1, Imm: 1}},
	{0x00000013, rv.Inst{Op: rv.Addi}},
	{0xff010113, rv.Inst{Op: rv.Addi, Rd: 2, A: 2, Imm: 0xfffffff0}},
	{0x800f8f93, rv.Inst{Op: rv.Addi, Rd: 31, A: 31, Imm: 0xfffff800}},
	{0x7ff30293, rv.Inst{Op: rv.Addi, Rd: 5, A: 6, Imm: 0x7ff}},
	{0xfff42393, rv.Inst{Op: rv.Slti, Rd: 7, A: 8, Imm: 0xffffffff}},
	{0x00153493, rv.Inst{Op: rv.Sltiu, Rd: 9, A: 10, Imm: 1}},
	{0xfff53493, rv.Inst{Op: rv.Sltiu, Rd: 9, A: 10, Imm: 0xffffffff}},
	{0xfff64593, rv.Inst{Op: rv.Xori, Rd: 11, A: 12, Imm: 0xffffffff}},
	{0x55576693, rv.Inst{Op: rv.Ori, Rd: 13, A: 14, Imm: 0x555}},
	{0x0ff87793, rv.Inst{Op: rv.Andi, Rd: 15, A: 16, Imm: 0xff}},
	{0x00011093, rv.Inst{Op: rv.Slli, Rd: 1, A: 2}},
	{0x01f21193, rv.Inst{Op: rv.Slli, Rd: 3, A: 4, Imm: 0x1f}},
	{0x00135293, rv.Inst{Op: rv.Srli, Rd: 5, A: 6, Imm: 1}},
	{0x01f45393, rv.Inst{Op: rv.Srli, Rd: 7, A: 8, Imm: 0x1f}},
	{0x40155493, rv.Inst{Op: rv.Srai, Rd: 9, A: 10, Imm: 1}},
	{0x41f65593, rv.Inst{Op: rv.Srai, Rd: 11, A: 12, Imm: 0x1f}},
	{0x003100b3, rv.Inst{Op: rv.Add, Rd: 1, A: 2, B: 3}},
	{0x01f00fb3, rv.Inst{Op: rv.Add, Rd: 31, B: 31}},
	{0x40628233, rv.Inst{Op: rv.Sub, Rd: 4, A: 5, B: 6}},
	{0x009413b3, rv.Inst{Op: rv.Sll, Rd: 7, A: 8, B: 9}},
	{0x00c5a533, rv.Inst{Op: rv.Slt, Rd: 10, A: 11, B: 12}},
	{0x00f736b3, rv.Inst{Op: rv.Sltu, Rd: 13, A: 14, B: 15}},
	{0x0128c833, rv.Inst{Op: rv.Xor, Rd: 16, A: 17, B: 18}},
	{0x015a59b3, rv.Inst{Op: rv.Srl, Rd: 19, A: 20, B: 21}},
	{0x418bdb33, rv.Inst{Op: rv.Sra, Rd: 22, A: 23, B: 24}},
	{0x01bd6cb3, rv.Inst{Op: rv.Or, Rd: 25, A: 26, B: 27}},
	{0x01eefe33, rv.Inst{Op: rv.And, Rd: 28, A: 29, B: 30}},
	{0x0ff0000f, rv.Inst{Op: rv.Fence}},
	{0x8330000f, rv.Inst{Op: rv.Fence}},
	{0x0310000f, rv.Inst{Op: rv.Fence}},
	{0x0840000f, rv.Inst{Op: rv.Fence}},
	{0x00000073, rv.Inst{Op: rv.Ecall}},
	{0x00100073, rv.Inst{Op: rv.Ebreak}},
	{0x30200073, rv.Inst{Op: rv.Mret}},
	{0x10500073, rv.Inst{Op: rv.Wfi}},
	{0x30509073, rv.Inst{Op: rv.Csrrw, A: 1, Csr: 0x305}},
	{0xffff9ff3, rv.Inst{Op: rv.Csrrw, Rd: 31, A: 31, Csr: 0xfff}},
	{0x342022f3, rv.Inst{Op: rv.Csrrs, Rd: 5, Csr: 0x342}},
	{0x0003a373, rv.Inst{Op: rv.Csrrs, Rd: 6, A: 7}},
	{0x3044b473, rv.Inst{Op: rv.Csrrc, Rd: 8, A: 9, Csr: 0x304}},
	{0x34005573, rv.Inst{Op: rv.Csrrwi, Rd: 10, Csr: 0x340}},
	{0x341fd5f3, rv.Inst{Op: rv.Csrrwi, Rd: 11, Imm: 0x1f, Csr: 0x341}},
	{0x30046073, rv.Inst{Op: rv.Csrrsi, Imm: 8, Csr: 0x300}},
	{0x80087673, rv.Inst{Op: rv.Csrrci, Rd: 12, Imm: 0x10, Csr: 0x800}},
	{0x023100b3, rv.Inst{Op: rv.Mul, Rd: 1, A: 2, B: 3}},
	{0x02629233, rv.Inst{Op: rv.Mulh, Rd: 4, A: 5, B: 6}},
	{0x029423b3, rv.Inst{Op: rv.Mulhsu, Rd: 7, A: 8, B: 9}},
	{0x02c5b533, rv.Inst{Op: rv.Mulhu, Rd: 10, A: 11, B: 12}},
	{0x02f746b3, rv.Inst{Op: rv.Div, Rd: 13, A: 14, B: 15}},
	{0x0328d833, rv.Inst{Op: rv.Divu, Rd: 16, A: 17, B: 18}},
	{0x035a69b3, rv.Inst{Op: rv.Rem, Rd: 19, A: 20, B: 21}},
	{0x03df7fb3, rv.Inst{Op: rv.Remu, Rd: 31, A: 30, B: 29}},
}

// decodes holds that a word is an instruction.
func decodes(t *testing.T, w uint32, want rv.Inst) {
	t.Helper()
	if got, ok := rv.Decode(w); !ok || got != want {
		t.Fatalf("%08x: %+v, %t, not %+v", w, got, ok, want)
	}
}

// refuses holds that a word is no instruction.
func refuses(t *testing.T, w uint32) {
	t.Helper()
	if got, ok := rv.Decode(w); ok || got != (rv.Inst{}) {
		t.Fatalf("%08x: %+v, %t", w, got, ok)
	}
}

// agrees holds that a word is what the patterns tell, and that its instruction
// has a word of that meaning.
func agrees(t *testing.T, w uint32) {
	t.Helper()
	want, ok := decode(w)
	if !ok {
		refuses(t, w)
		return
	}
	decodes(t, w, want)
	encodes(t, want)
	if got, _ := rv.Encode(want); got != w && want.Op != rv.Fence {
		t.Fatalf("%08x: encoded %08x", w, got)
	}
}

// encodes holds that Encode does with an instruction what the patterns tell.
func encodes(t *testing.T, i rv.Inst) {
	t.Helper()
	w, ok := rv.Encode(i)
	want, can := encode(i)
	if ok != can || !ok && w != 0 {
		t.Fatalf("%+v: %08x, %t, not %t", i, w, ok, can)
	}
	if !ok {
		return
	}
	if i.Op != rv.Fence && w != want {
		t.Fatalf("%+v: %08x, not %08x", i, w, want)
	}
	decodes(t, w, i)
}

func TestTheExample(t *testing.T) {
	decodes(t, 0x00100093, rv.Inst{Op: rv.Addi, Rd: 1, Imm: 1})
	agrees(t, 0x00100093)
}

func TestKnownWords(t *testing.T) {
	seen := map[byte]bool{}
	for _, x := range known {
		decodes(t, x.w, x.i)
		agrees(t, x.w)
		seen[x.i.Op] = true
	}
	if len(seen) != 56 {
		t.Errorf("%d instructions", len(seen))
	}
}

func TestTheNumbers(t *testing.T) {
	numbers := []byte{rv.Lui, rv.Auipc, rv.Jal, rv.Jalr, rv.Beq, rv.Bne, rv.Blt, rv.Bge, rv.Bltu, rv.Bgeu,
		rv.Lb, rv.Lh, rv.Lw, rv.Lbu, rv.Lhu, rv.Sb, rv.Sh, rv.Sw,
		rv.Addi, rv.Slti, rv.Sltiu, rv.Xori, rv.Ori, rv.Andi, rv.Slli, rv.Srli, rv.Srai,
		rv.Add, rv.Sub, rv.Sll, rv.Slt, rv.Sltu, rv.Xor, rv.Srl, rv.Sra, rv.Or, rv.And,
		rv.Fence, rv.Ecall, rv.Ebreak, rv.Mret, rv.Wfi,
		rv.Csrrw, rv.Csrrs, rv.Csrrc, rv.Csrrwi, rv.Csrrsi, rv.Csrrci,
		rv.Mul, rv.Mulh, rv.Mulhsu, rv.Mulhu, rv.Div, rv.Divu, rv.Rem, rv.Remu}
	for i, op := range numbers {
		if int(op) != i+1 {
			t.Errorf("number %d is %d", i+1, op)
		}
	}
	if len(numbers) != 56 || len(parsed) != 56 {
		t.Errorf("%d numbers, %d patterns", len(numbers), len(parsed))
	}
}

func TestName(t *testing.T) {
	for op := range 256 {
		p, _ := patternOf(byte(op))
		if got := rv.Name(byte(op)); got != p.name {
			t.Errorf("%d: %q, not %q", op, got, p.name)
		}
	}
	if rv.Name(0) != "" || rv.Name(1) != "lui" || rv.Name(56) != "remu" || rv.Name(57) != "" {
		t.Error("the first or the last name")
	}
}

// No word has two meanings.
func TestThePatternsExcludeEachOther(t *testing.T) {
	for i, p := range parsed {
		for _, q := range parsed[:i] {
			if both := p.mask & q.mask; p.fixed&both == q.fixed&both {
				t.Errorf("%s and %s", p.name, q.name)
			}
		}
	}
}

// Whether a word is an instruction hangs on its opcode, funct3 and funct7, and
// for the opcode SYSTEM on all bits.
func TestShapes(t *testing.T) {
	const others = 0x01ff8f80 // rd, rs1 and rs2
	draw := rand.New(rand.NewSource(1))
	for high := range uint32(128) {
		for low := range uint32(1024) {
			w := high<<25 | low>>7<<12 | low&0x7f
			agrees(t, w)
			agrees(t, w|others)
			agrees(t, w|draw.Uint32()&others)
		}
	}
}

// Only four words with the opcode SYSTEM and without a funct3 are instructions.
func TestTheWordsAlone(t *testing.T) {
	alone := map[uint32]byte{0x00000073: rv.Ecall, 0x00100073: rv.Ebreak, 0x30200073: rv.Mret, 0x10500073: rv.Wfi}
	for high := range uint32(1 << 17) {
		for rd := range uint32(32) {
			w := high<<15 | rd<<7 | 0x73
			if op := alone[w]; op != 0 {
				decodes(t, w, rv.Inst{Op: op})
				continue
			}
			refuses(t, w)
		}
	}
	for w := range alone {
		for bit := range 32 {
			agrees(t, w^1<<bit)
		}
	}
}

// A FENCE may have any bits besides its opcode and funct3.
func TestFence(t *testing.T) {
	draw := rand.New(rand.NewSource(2))
	for range 10000 {
		decodes(t, draw.Uint32()&^0x707f|0x0f, rv.Inst{Op: rv.Fence})
	}
	for kind := range uint32(7) {
		refuses(t, (kind+1)<<12|0x0f) // FENCE.I, and what does not exist
	}
	for _, w := range []uint32{0x0000000f, 0xffff8f8f, 0x0ff0000f, 0x8330000f, 0x0100000f} {
		decodes(t, w, rv.Inst{Op: rv.Fence})
	}
	encodes(t, rv.Inst{Op: rv.Fence})
}

// Each bit of each field is where the patterns have it, also when it is the
// only one or the only one that is missing.
func TestEachBit(t *testing.T) {
	for _, p := range parsed {
		agrees(t, p.fixed)
		agrees(t, p.fixed|^p.mask)
		for bit := range 32 {
			agrees(t, p.fixed^1<<bit)
			agrees(t, (p.fixed|^p.mask)^1<<bit)
			for other := range bit {
				agrees(t, p.fixed^1<<bit^1<<other)
			}
		}
	}
}

func TestRandomWords(t *testing.T) {
	draw := rand.New(rand.NewSource(3))
	for range 100000 {
		agrees(t, draw.Uint32())
		p := parsed[draw.Intn(len(parsed))]
		agrees(t, p.fixed|draw.Uint32()&^p.mask)
	}
}

// Words of compressed instructions, or none at all.
func TestOtherWords(t *testing.T) {
	refuses(t, 0)
	refuses(t, math.MaxUint32)
	for _, x := range known {
		for low := range uint32(3) {
			refuses(t, x.w&^3|low)
		}
	}
}

// values are immediates around the bounds of all kinds.
func values() []uint32 {
	l := []uint32{0, 0x12345678, 0x12345000, 0xfffff001, 0xaaaaaaaa, 0x55555555}
	for bit := range 33 {
		edge := uint32(uint64(1) << bit)
		for d := range uint32(5) {
			l = append(l, edge+d-2, -(edge + d - 2))
		}
	}
	return l
}

// With each immediate around a bound, an instruction has a word, or none.
func TestEncodeImmediates(t *testing.T) {
	l := values()
	for op := range 256 {
		for _, v := range l {
			encodes(t, rv.Inst{Op: byte(op), Imm: v})
			i := rv.Inst{Op: byte(op), Imm: v}
			if p, _ := patternOf(byte(op)); p.has("rd") {
				i.Rd = 31
			} else if p.has("rs2") {
				i.B = 31
			}
			encodes(t, i)
		}
	}
}

// With each register and each CSR, too.
func TestEncodeFields(t *testing.T) {
	for op := range 256 {
		for n := range 256 {
			encodes(t, rv.Inst{Op: byte(op), Rd: byte(n)})
			encodes(t, rv.Inst{Op: byte(op), A: byte(n)})
			encodes(t, rv.Inst{Op: byte(op), B: byte(n)})
		}
	}
	for op := range byte(60) {
		for n := range uint16(300) {
			encodes(t, rv.Inst{Op: op, Csr: n})
			encodes(t, rv.Inst{Op: op, Csr: 4000 + n})
		}
		for bit := range 16 {
			encodes(t, rv.Inst{Op: op, Csr: 1 << bit})
			encodes(t, rv.Inst{Op: op, Csr: math.MaxUint16 ^ 1<<bit})
		}
		encodes(t, rv.Inst{Op: op, Csr: math.MaxUint16})
	}
}

// What is too great for one field must not come back in another one.
func TestEncodeRandomInstructions(t *testing.T) {
	draw := rand.New(rand.NewSource(4))
	l := values()
	small := func() byte { return byte(draw.Intn(33)) }
	for range 150000 {
		i := rv.Inst{Op: byte(draw.Intn(58))}
		p, _ := patternOf(i.Op)
		if p.has("rd") || draw.Intn(8) == 0 {
			i.Rd = small()
		}
		if p.has("rs1") || draw.Intn(8) == 0 {
			i.A = small()
		}
		if p.has("rs2") || draw.Intn(8) == 0 {
			i.B = small()
		}
		if p.has("csr") || draw.Intn(8) == 0 {
			i.Csr = uint16(draw.Intn(4100))
		}
		if draw.Intn(2) == 0 {
			i.Imm = l[draw.Intn(len(l))]
		}
		encodes(t, i)
	}
}

func TestCode(t *testing.T) {
	got := rv.Code(rv.Inst{Op: rv.Addi, Rd: 1, Imm: 1}, rv.Inst{Op: rv.Sw, A: 2, B: 1, Imm: 12}, rv.Inst{Op: rv.Ecall})
	if want := []byte{0x93, 0, 0x10, 0, 0x23, 0x26, 0x11, 0, 0x73, 0, 0, 0}; !bytes.Equal(got, want) {
		t.Errorf("%x", got)
	}
	if got := rv.Code(); len(got) != 0 {
		t.Errorf("%x", got)
	}
	if got := rv.Code([]rv.Inst{}...); len(got) != 0 {
		t.Errorf("%x", got)
	}
	// Those without a word keep the place of one.
	none := rv.Inst{Op: rv.Addi, Rd: 32}
	got = rv.Code(none, rv.Inst{Op: rv.Lui, Rd: 31, Imm: 0xfedcb000}, rv.Inst{}, rv.Inst{Op: 57}, rv.Inst{Op: rv.Wfi, Imm: 1})
	if want := []byte{0, 0, 0, 0, 0xb7, 0xbf, 0xdc, 0xfe, 0, 0, 0, 0, 0, 0, 0, 0, 0, 0, 0, 0}; !bytes.Equal(got, want) {
		t.Errorf("%x", got)
	}
}

func TestCodeOfAll(t *testing.T) {
	var l []rv.Inst
	var want []byte
	for _, x := range known {
		if x.i.Op != rv.Fence {
			l = append(l, x.i)
			want = binary.LittleEndian.AppendUint32(want, x.w)
		}
	}
	kept := append([]rv.Inst{}, l...)
	got := rv.Code(l...)
	if !bytes.Equal(got, want) {
		t.Errorf("%x", got)
	}
	for i := range l {
		if l[i] != kept[i] {
			t.Errorf("%d was changed: %+v", i, l[i])
		}
	}
	for i := range got[:cap(got)] {
		got[:cap(got)][i] = 0xee
	}
	if again := rv.Code(l...); !bytes.Equal(again, want) {
		t.Errorf("afterwards %x", again)
	}
}

// A word of Fence is one, whichever it is.
func TestCodeOfFence(t *testing.T) {
	p := rv.Code(rv.Inst{Op: rv.Fence})
	if len(p) != 4 {
		t.Fatalf("%x", p)
	}
	decodes(t, binary.LittleEndian.Uint32(p), rv.Inst{Op: rv.Fence})
}

// The same words and instructions lead to the same results each time, although
// shapes are looked for in maps.
func TestAgain(t *testing.T) {
	for _, x := range known {
		first, _ := rv.Encode(x.i)
		for range 50 {
			if again, ok := rv.Encode(x.i); !ok || again != first {
				t.Fatalf("%+v: %08x, then %08x", x.i, first, again)
			}
			decodes(t, x.w, x.i)
		}
	}
}

func BenchmarkDecode(b *testing.B) {
	for i := range b.N {
		rv.Decode(known[i%len(known)].w)
	}
}

func BenchmarkEncode(b *testing.B) {
	for i := range b.N {
		rv.Encode(known[i%len(known)].i)
	}
}
