package core_test

import (
	"testing"

	"curtilage/core"
	"curtilage/engine"
	"curtilage/rv"
)

// edges are where the regions begin and end.
var edges = []uint32{
	0x20000000, 0x20001000, 0x20002000, 0x10000000, 0x10002800, 0x40000000,
	0x40000040, 0x60000000, 0x60000100, 0, 0x80000000,
}

// ops are the numbers of the instructions, by kinds that look alike.
var ops = [][]byte{
	{rv.Lui, rv.Auipc},
	{rv.Jal, rv.Jalr},
	{rv.Beq, rv.Bne, rv.Blt, rv.Bge, rv.Bltu, rv.Bgeu},
	{rv.Lb, rv.Lh, rv.Lw, rv.Lbu, rv.Lhu},
	{rv.Sb, rv.Sh, rv.Sw},
	{rv.Addi, rv.Slti, rv.Sltiu, rv.Xori, rv.Ori, rv.Andi, rv.Slli, rv.Srli, rv.Srai},
	{rv.Add, rv.Sub, rv.Sll, rv.Slt, rv.Sltu, rv.Xor, rv.Srl, rv.Sra, rv.Or, rv.And},
	{rv.Fence, rv.Ecall, rv.Ebreak, rv.Mret, rv.Wfi},
	{rv.Csrrw, rv.Csrrs, rv.Csrrc, rv.Csrrwi, rv.Csrrsi, rv.Csrrci},
	{rv.Mul, rv.Mulh, rv.Mulhsu, rv.Mulhu, rv.Div, rv.Divu, rv.Rem, rv.Remu},
}

// numbers are those of CSRs, and some that no CSR has.
var numbers = []uint16{
	0x300, 0x304, 0x305, 0x340, 0x341, 0x342, 0x343, 0x344, 0xb00, 0xf14,
	0, 0x301, 0x306, 0x345, 0xb01, 0xb02, 0xc00, 0xf11, 0xf15, 0xfff,
}

// value returns a number as registers may have them: an address around an
// edge, a small one, or any.
func value(r *source) uint32 {
	switch r.below(4) {
	case 0:
		return uint32(r.below(5)) - 2
	case 1:
		return r.next()
	}
	return pick(r, edges...) + uint32(r.below(129)) - 64
}

// word returns an instruction's word, and now and then one that is none.
func word(r *source) uint32 {
	if r.below(16) == 0 {
		return r.next()
	}
	for {
		i := rv.Inst{Op: pick(r, pick(r, ops...)...)}
		i.Rd, i.A, i.B = byte(r.below(32)), byte(r.below(32)), byte(r.below(32))
		w, ok := rv.Encode(fitted(r, i))
		if ok {
			return w
		}
	}
}

// fitted returns an instruction with an immediate of its own, and only those
// fields that it has.
func fitted(r *source, i rv.Inst) rv.Inst {
	small := uint32(r.below(65)) - 32
	if r.below(4) == 0 {
		small = uint32(r.below(4096)) - 2048
	}
	switch {
	case i.Op <= rv.Auipc:
		return rv.Inst{Op: i.Op, Rd: i.Rd, Imm: pick(r, r.next(), 0x20000000, 0x1000, 0xfffff000, 0) &^ 0xfff}
	case i.Op == rv.Jal:
		return rv.Inst{Op: i.Op, Rd: i.Rd, Imm: small * 2}
	case i.Op == rv.Jalr:
		return rv.Inst{Op: i.Op, Rd: i.Rd, A: i.A, Imm: small}
	case i.Op <= rv.Bgeu:
		return rv.Inst{Op: i.Op, A: i.A, B: pick(r, i.A, i.B), Imm: small * 2}
	case i.Op <= rv.Lhu:
		return rv.Inst{Op: i.Op, Rd: i.Rd, A: i.A, Imm: small}
	case i.Op <= rv.Sw:
		return rv.Inst{Op: i.Op, A: i.A, B: i.B, Imm: small}
	case i.Op <= rv.Andi:
		return rv.Inst{Op: i.Op, Rd: i.Rd, A: i.A, Imm: small}
	case i.Op <= rv.Srai:
		return rv.Inst{Op: i.Op, Rd: i.Rd, A: i.A, Imm: small & 31}
	case i.Op <= rv.And || i.Op >= rv.Mul:
		return i
	case i.Op <= rv.Wfi:
		return rv.Inst{Op: i.Op}
	case i.Op <= rv.Csrrc:
		return rv.Inst{Op: i.Op, Rd: i.Rd, A: pick(r, 0, i.A), Csr: pick(r, numbers...)}
	}
	return rv.Inst{Op: i.Op, Rd: i.Rd, Imm: pick(r, 0, small&31), Csr: pick(r, numbers...)}
}

// anyState gives the machine a state of any kind.
func anyState(r *source, m *machine) {
	for i := range m.x {
		m.set(uint32(i), value(r))
	}
	for _, n := range numbers[:10] {
		m.csr[n] = pick(r, r.next(), value(r), 0xffffffff, 0) & masks[n]
	}
	m.pc = 0x20000000 + 4*uint32(r.below(1024))
	switch r.below(20) {
	case 0:
		m.pc += uint32(r.below(4))
	case 1:
		m.pc = value(r)
	case 2:
		m.pc = pick(r, edges...) &^ 3
	}
}

// Any instruction in any state: what it does, and that it does nothing else.
func TestAnyStep(t *testing.T) {
	causes := map[uint32]int{}
	done := map[string]int{}
	m := newMachine(1)
	s := m.space(t)
	for n := range 60000 {
		r := random(uint64(n))
		m.stage = pick(r, 1, 1, 1, 2, 2, 2, 0)
		anyState(r, m)
		if i := m.pc - 0x20000000; i < 8192-3 {
			m.put(int(i), word(r))
		}
		s.Stage, s.RAM, s.Port = m.stage, m.ram, m.port
		timer := r.below(8) == 0
		before := m.core(t)
		kept := before
		c, e := before.Step(s, timer)
		want := m.step(timer)
		told(t, e, want)
		holds(t, c, s, m)
		if before != kept {
			t.Error("the core before has changed")
		}
		if t.Failed() {
			t.Fatalf("step %d: from %x in stage %d", n, before, m.stage)
		}
		causes[want.Cause]++
		done[rv.Name(want.Who.Op)]++
	}
	unmoved(t, s, m)
	for _, cause := range []uint32{0, 1, 2, 3, 4, 5, 6, 7, 11, 0x80000007} {
		if causes[cause] < 50 {
			t.Errorf("cause %x came only %d times", cause, causes[cause])
		}
	}
	for op := rv.Lui; op <= rv.Remu; op++ {
		if done[rv.Name(op)] < 30 && op != rv.Ecall && op != rv.Ebreak {
			t.Errorf("%s was done only %d times", rv.Name(op), done[rv.Name(op)])
		}
	}
}

// Programs of such instructions, step after step, with a timer that comes and
// goes, in stages that change.
func TestAnyProgram(t *testing.T) {
	steps := 3000
	for seed := range uint64(30) {
		r := random(1000 + seed)
		m := newMachine(1 + r.below(2))
		for i := range 1024 {
			m.put(4*i, word(r))
		}
		anyState(r, m)
		m.csr[0x305] = 0x20000000 + 4*uint32(r.below(1024))
		s := m.space(t)
		c := m.core(t)
		for n := range steps {
			timer := r.below(16) == 0
			want := m.step(timer)
			var e core.Event
			c, e = c.Step(s, timer)
			told(t, e, want)
			holds(t, c, s, m)
			if t.Failed() {
				t.Fatalf("program %d, step %d", seed, n)
			}
			c = interfere(r, c, s, m)
		}
		unmoved(t, s, m)
	}
}

// interfere changes this and that now and then, so that the program goes on.
func interfere(r *source, c core.Core, s *engine.Space, m *machine) core.Core {
	if r.below(50) == 0 {
		m.stage = pick(r, 1, 2)
		s.Stage = m.stage
	}
	if _, i := area(m.pc); !m.may(m.pc, "x") || r.below(100) == 0 {
		m.csr[0x305] = 0x20000000 + 4*uint32(r.below(1024))
		c, _ = c.Set(0x305, m.csr[0x305])
		m.pc = 0x20000000 + 4*uint32(r.below(1024))
		c.PC = m.pc
	} else if m.stage == 1 && r.below(20) == 0 {
		m.put(int(i&^3), word(r))
		s.RAM = m.ram
	}
	if r.below(10) == 0 {
		n := uint32(r.below(32))
		m.set(n, value(r))
		c = c.With(int(n), m.x[n])
	}
	return c
}
