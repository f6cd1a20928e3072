package core_test

import (
	"crypto/sha256"
	"encoding/hex"
	"testing"

	"curtilage/core"
	"curtilage/rv"
)

// What the Data of these programs is in the end, hashed: as QEMU's
// qemu-riscv32 left it, with the same code and bytes at the same addresses.
var leftByQemu = []string{
	"e6a30dd94cc8ece0", "f05a4bd4d8811ee8", "febda73707866d75", "6c647b2c1878590a",
	"d05c59cec2d60fa1", "a5d603219a5aad13", "f67608b87704e539", "af35f6fc737312d7",
}

// The registers that a program keeps for itself.
const (
	base    = 8
	counter = 9
	middle  = 7 // of the code
)

// program returns a program that does this and that in a loop, over and over,
// and puts all registers into Data in the end.
func program(seed uint64) []rv.Inst {
	r := random(seed)
	var l []rv.Inst
	for i := range byte(32) {
		v := r.next()
		l = append(l, rv.Inst{Op: rv.Lui, Rd: i, Imm: v &^ 0xfff}, rv.Inst{Op: rv.Addi, Rd: i, A: i, Imm: signed(v, 12)})
	}
	l = append(l, rv.Inst{Op: rv.Lui, Rd: base, Imm: 0x20001000}, rv.Inst{Op: rv.Addi, Rd: counter, Imm: 20})
	l = append(l, rv.Inst{Op: rv.Addi, Rd: middle, A: base, Imm: ^uint32(0x7ff)})
	start := len(l)
	for len(l) < 900 {
		l = append(l, piece(r, len(l)))
	}
	for range 4 { // so that nothing jumps behind the loop
		l = append(l, rv.Inst{Op: rv.Addi})
	}
	l = append(l, rv.Inst{Op: rv.Addi, Rd: counter, A: counter, Imm: ^uint32(0)})
	l = append(l, rv.Inst{Op: rv.Bne, A: counter, Imm: uint32(4 * (start - len(l)))})
	for i := range byte(32) {
		l = append(l, rv.Inst{Op: rv.Sw, A: base, B: i, Imm: 0x700 + 4*uint32(i)})
	}
	return append(l, rv.Inst{Op: rv.Ecall})
}

// piece returns an instruction that does not disturb the loop, for a place
// in the program.
func piece(r *source, place int) rv.Inst {
	rd := byte(r.below(32))
	if rd == base || rd == counter || rd == middle {
		rd = 0
	}
	a, b := byte(r.below(32)), byte(r.below(32))
	i := rv.Inst{Rd: rd, A: a, B: b}
	switch kind := r.below(10); kind {
	case 0:
		i.Op = pick(r, ops[0]...)
		return fitted(r, i)
	case 1:
		return rv.Inst{Op: rv.Jal, Rd: rd, Imm: 4 * uint32(1+r.below(4))}
	case 2:
		// Just behind the jump, or a little further; the lowest bit is dropped.
		to := 4*uint32(place+1+r.below(4)) + uint32(r.below(2))
		return rv.Inst{Op: rv.Jalr, Rd: rd, A: middle, Imm: to - 0x800}
	case 3:
		return rv.Inst{Op: pick(r, ops[2]...), A: a, B: pick(r, a, b), Imm: 4 * uint32(1+r.below(4))}
	case 4, 5:
		i.Op = pick(r, ops[kind-1]...)
		i.A, i.Imm = base, uint32(r.below(1792)&^3)
		switch i.Op {
		case rv.Lb, rv.Lbu, rv.Sb:
			i.Imm += uint32(r.below(4))
		case rv.Lh, rv.Lhu, rv.Sh:
			i.Imm += 2 * uint32(r.below(2))
		}
		if kind == 4 {
			i.B = 0
		} else {
			i.Rd = 0
		}
		return i
	case 6:
		i.Op = pick(r, ops[5]...)
		return fitted(r, i)
	case 7, 8:
		i.Op = pick(r, ops[6]...)
		return i
	}
	i.Op = pick(r, ops[9]...)
	return i
}

// ran returns what a program leaves in Data.
func ran(t *testing.T, seed uint64) []byte {
	t.Helper()
	m := newMachine(1)
	copy(m.ram[:4096], rv.Code(program(seed)...))
	s := m.space(t)
	c, n := core.New(0x20000000).Run(s, 1<<20)
	if v, _ := c.Csr(0x342); v != 11 || n > 20000 {
		t.Fatalf("program %d: cause %d after %d steps", seed, v, n)
	}
	return s.RAM[4096:]
}

func TestKnownAnswers(t *testing.T) {
	for i, want := range leftByQemu {
		d := sha256.Sum256(ran(t, uint64(i)))
		if got := hex.EncodeToString(d[:8]); got != want {
			t.Errorf("program %d: %s", i, got)
		}
	}
}
