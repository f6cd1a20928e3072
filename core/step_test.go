package core_test

import (
	"bytes"
	"testing"

	"curtilage/core"
	"curtilage/rv"
)

// Where Code and Data begin.
const (
	code = 0x20000000
	data = 0x20001000
)

// steps holds a step of the machine, with the space that it has, and returns
// what the step told.
func steps(t *testing.T, m *machine, timer bool) core.Event {
	t.Helper()
	s := m.space(t)
	c, got := m.core(t).Step(s, timer)
	told(t, got, m.step(timer))
	holds(t, c, s, m)
	unmoved(t, s, m)
	return got
}

// traps holds that the machine's next step traps, with this cause and value.
func traps(t *testing.T, m *machine, timer bool, cause, value uint32) {
	t.Helper()
	before, x, pc := m.csr[0xb00], m.x, m.pc
	s := m.space(t)
	c, e := m.core(t).Step(s, timer)
	told(t, e, core.Event{Trap: true, Cause: cause})
	reads(t, c, 0x341, pc&^3)
	reads(t, c, 0x342, cause)
	reads(t, c, 0x343, value)
	reads(t, c, 0xb00, before+1)
	reads(t, c, 0x300, m.csr[0x300]&8<<4)
	if c.PC != m.csr[0x305] || c.X != x {
		t.Errorf("PC %x, registers %x", c.PC, c.X)
	}
	for _, n := range []uint16{0x304, 0x305, 0x340, 0xf14} {
		reads(t, c, n, m.csr[n])
	}
	if s.RAM != m.ram || s.Port != m.port {
		t.Error("the memory has changed")
	}
	m.step(timer)
	holds(t, c, s, m)
}

// ready returns a machine with a handler and other numbers everywhere, whose
// program begins with these.
func ready(l ...rv.Inst) *machine {
	m := with(l...)
	for i := range m.x {
		m.set(uint32(i), 0x1000*uint32(i)+7)
	}
	m.csr[0x300], m.csr[0x304], m.csr[0x305], m.csr[0x340] = 8, 0x80, 0x20000800, 0x12345678
	m.csr[0x341], m.csr[0x342], m.csr[0x343], m.csr[0xb00] = 0x2000007c, 99, 98, 1000
	return m
}

// The first of the things that can happen is what happens.
func TestTheOrderOfTraps(t *testing.T) {
	for _, c := range []struct {
		pc           uint32
		status, ie   uint32
		timer        bool
		cause, value uint32
	}{
		{code, 8, 0x80, true, 0x80000007, code},
		{code + 1, 8, 0x80, true, 0x80000007, code + 1},
		{code + 2, 8, 0x80, true, 0x80000007, code + 2},
		{0, 8, 0x80, true, 0x80000007, 0},
		{3, 8, 0x80, true, 0x80000007, 3},
		{code + 4, 8, 0x80, true, 0x80000007, code + 4},
		{3, 8, 0x80, false, 0, 3},
		{3, 8, 0, true, 0, 3},
		{3, 0x80, 0x80, true, 0, 3},
		{code + 1, 0x80, 0x80, true, 0, code + 1},
		{code + 2, 8, 0, true, 0, code + 2},
		{code + 3, 8, 0x80, false, 0, code + 3},
		{0xffffffff, 8, 0, true, 0, 0xffffffff},
		{0, 8, 0, true, 1, 0},
		{data, 8, 0, true, 1, data},
		{0x10000000, 8, 0x80, false, 1, 0x10000000},
		{0x40000000, 0, 0, true, 1, 0x40000000},
		{0x60000000, 0, 0, true, 1, 0x60000000},
		{0xfffffffc, 0, 0, true, 1, 0xfffffffc},
		{code + 4, 8, 0, true, 2, 0xffffffff},
	} {
		m := ready(rv.Inst{Op: rv.Wfi})
		m.put(4, 0xffffffff)
		m.pc, m.csr[0x300], m.csr[0x304] = c.pc, c.status, c.ie
		traps(t, m, c.timer, c.cause, c.value)
		if t.Failed() {
			t.Fatalf("%+v", c)
		}
	}
}

// Only with all three the timer traps.
func TestTheTimer(t *testing.T) {
	for i := range 32 {
		m := ready(rv.Inst{Op: rv.Wfi})
		m.csr[0x300] = pickBit(i, 0, 8) | pickBit(i, 1, 0x80)
		m.csr[0x304] = pickBit(i, 2, 0x80)
		m.csr[0x341] = pickBit(i, 4, 0x2000007c)
		want := m.csr[0x300]&8 != 0 && m.csr[0x304] != 0 && i&8 != 0
		if e := steps(t, m, i&8 != 0); e.Trap != want {
			t.Errorf("%x: %+v", i, e)
		}
	}
}

// pickBit returns v if bit n of i is set.
func pickBit(i, n int, v uint32) uint32 {
	if i>>n&1 == 1 {
		return v
	}
	return 0
}

// Words of no instruction, and one that is fetched from the end of Code.
func TestIllegalWords(t *testing.T) {
	for _, w := range []uint32{0, 1, 2, 0x00000012, 0xffffffff, 0x00001067, 0x00002063, 0x00003003, 0x00003023, 0x02001013, 0x04000033, 0x00004073, 0x00100173, 0x30200173, 0x10200073, 0x0000100f} {
		for _, at := range []uint32{0, 4092} {
			m := ready()
			m.pc = code + at
			m.put(int(at), w)
			traps(t, m, false, 2, w)
		}
	}
}

func TestCalls(t *testing.T) {
	traps(t, ready(rv.Inst{Op: rv.Ecall}), false, 11, 0)
	traps(t, ready(rv.Inst{Op: rv.Ebreak}), false, 3, code)
	for _, status := range []uint32{0, 8, 0x80, 0x88} {
		m := ready(rv.Inst{Op: rv.Wfi}, rv.Inst{Op: rv.Ebreak})
		m.csr[0x300] = status
		m.pc = code + 4
		traps(t, m, false, 3, code+4)
	}
}

// Only in stages 1 and 2 the core can fetch, and only from Code.
func TestStages(t *testing.T) {
	for _, stage := range []int{-1 << 63, -1, 0, 1, 2, 3, 4, 1 << 32, 1<<32 + 1} {
		m := ready(rv.Inst{Op: rv.Wfi})
		m.stage = stage
		if stage == 1 || stage == 2 {
			steps(t, m, false)
		} else {
			traps(t, m, false, 1, code)
		}
	}
}

// Jumps to every remainder: the lowest bit is dropped by Jalr alone.
func TestCrookedJumps(t *testing.T) {
	for by := range uint32(16) {
		m := ready(rv.Inst{Op: rv.Jalr, Rd: 1, A: 2, Imm: by})
		m.x[2] = code + 0x100
		to := code + 0x100 + by&^1
		if to%4 != 0 {
			traps(t, m, false, 0, to)
		} else if steps(t, m, false); m.pc != to || m.x[1] != code+4 {
			t.Errorf("by %d: PC %x", by, m.pc)
		}
		// An odd base, which the immediate makes even or not.
		m = ready(rv.Inst{Op: rv.Jalr, Rd: 1, A: 2, Imm: by})
		m.x[2] = code + 0x101
		if to = (code + 0x101 + by) &^ 1; to%4 != 0 {
			traps(t, m, false, 0, to)
		} else {
			steps(t, m, false)
		}
		if by%2 == 0 {
			for _, i := range []rv.Inst{{Op: rv.Jal, Rd: 1, Imm: by}, {Op: rv.Beq, Imm: by}, {Op: rv.Bge, Imm: -by}} {
				m = ready(i)
				if to = code + i.Imm; to%4 != 0 {
					traps(t, m, false, 0, to)
				} else if steps(t, m, false); m.pc != to {
					t.Errorf("%+v: PC %x", i, m.pc)
				}
			}
			// A branch that is not taken leads nowhere.
			m = ready(rv.Inst{Op: rv.Bne, A: 3, B: 3, Imm: by})
			if steps(t, m, false); m.pc != code+4 {
				t.Errorf("by %d: PC %x", by, m.pc)
			}
		}
	}
}

// A jump may lead where nothing can be fetched: that is the next step's trap.
func TestJumpsToNowhere(t *testing.T) {
	m := ready(rv.Inst{Op: rv.Jalr, Rd: 2, A: 2, Imm: 4})
	m.x[2] = 0xfffffffc
	if e := steps(t, m, false); e.Trap || m.pc != 0 || m.x[2] != code+4 {
		t.Errorf("%+v, PC %x", e, m.pc)
	}
	traps(t, m, false, 1, 0)
}

// Loads and stores of every size at every remainder, around all edges, in both
// stages.
func TestAround(t *testing.T) {
	for _, stage := range []int{1, 2} {
		m := ready()
		m.stage = stage
		s := m.space(t)
		for _, edge := range edges {
			for by := range uint32(20) {
				for op := rv.Lb; op <= rv.Sw; op++ {
					i := rv.Inst{Op: op, Rd: 5, A: 6, Imm: by - 10}
					if op >= rv.Sb {
						i = rv.Inst{Op: op, A: 6, B: 7, Imm: by - 10}
					}
					m.pc, m.x[6] = code+2048, edge
					copy(m.ram[2048:], rv.Code(i))
					s.RAM = m.ram
					c, e := m.core(t).Step(s, false)
					told(t, e, m.step(false))
					holds(t, c, s, m)
				}
			}
		}
		unmoved(t, s, m)
	}
}

// A locked word cannot be loaded: neither a word of it nor a byte.
func TestLockedFuses(t *testing.T) {
	for _, c := range []struct {
		op byte
		at uint32
	}{{rv.Lw, 0}, {rv.Lh, 0}, {rv.Lhu, 2}, {rv.Lb, 1}, {rv.Lbu, 3}} {
		m := ready(rv.Inst{Op: c.op, Rd: 5, A: 6, Imm: c.at})
		m.x[6] = 0x60000000 + 4*30
		m.locked[30] = true
		traps(t, m, false, 5, m.x[6]+c.at)
		m = ready(rv.Inst{Op: c.op, Rd: 5, A: 6, Imm: c.at})
		m.x[6] = 0x60000000 + 4*31
		m.locked[30], m.locked[31], m.locked[32] = true, false, true
		steps(t, m, false)
	}
}

// Memory is little-endian, the fuses' words are not.
func TestBytes(t *testing.T) {
	m := ready(rv.Inst{Op: rv.Lw, Rd: 5, A: 6})
	m.put(4096, 0x04030201)
	m.x[6] = data
	if steps(t, m, false); m.x[5] != 0x04030201 {
		t.Errorf("%x", m.x[5])
	}
	m = ready(rv.Inst{Op: rv.Lw, Rd: 5, A: 6})
	m.fuses[1], m.locked[1] = 0x04030201, false
	m.x[6] = 0x60000004
	if steps(t, m, false); m.x[5] != 0x01020304 {
		t.Errorf("%x", m.x[5])
	}
}

// A load into register 0 is a load: it may trap.
func TestLoadIntoNothing(t *testing.T) {
	m := ready(rv.Inst{Op: rv.Lw, A: 6})
	m.x[6] = data
	if e := steps(t, m, false); e.Trap || m.x[0] != 0 {
		t.Errorf("%+v", e)
	}
	m = ready(rv.Inst{Op: rv.Lw, A: 6})
	m.x[6] = data + 4096
	traps(t, m, false, 5, data+4096)
}

// What a store tells is where it stored, and just these bytes, in new memory.
func TestStores(t *testing.T) {
	for _, c := range []struct {
		op   byte
		want []byte
	}{{rv.Sb, []byte{0xa4}}, {rv.Sh, []byte{0xa4, 0xb3}}, {rv.Sw, []byte{0xa4, 0xb3, 0xc2, 0xd1}}} {
		m := ready(rv.Inst{Op: c.op, A: 6, B: 7, Imm: 4})
		m.x[6], m.x[7] = data, 0xd1c2b3a4
		s := m.space(t)
		before := m.core(t)
		_, e := before.Step(s, false)
		told(t, e, core.Event{Who: rv.Inst{Op: c.op, A: 6, B: 7, Imm: 4}, At: data + 4, Wrote: c.want})
		if got := s.RAM[4100:][:len(c.want)]; !bytes.Equal(got, c.want) || s.RAM[4099] != m.ram[4099] || s.RAM[4100+len(c.want)] != m.ram[4100+len(c.want)] {
			t.Errorf("stored %x", got)
		}
		ram := s.RAM
		clear(e.Wrote[:cap(e.Wrote)])
		if s.RAM != ram {
			t.Error("the bytes are the memory's")
		}
		_, again := before.Step(s, false)
		told(t, again, core.Event{Who: e.Who, At: data + 4, Wrote: c.want})
	}
}

// A step changes the program where it stores: the next one is the new one.
func TestAProgramThatChangesItself(t *testing.T) {
	m := ready(rv.Inst{Op: rv.Sw, A: 6, B: 7, Imm: 4}, rv.Inst{Op: rv.Ebreak})
	m.stage = 2
	m.x[6], m.x[7] = code, 0x00100093
	s := m.space(t)
	c := m.core(t)
	for range 2 {
		var e core.Event
		c, e = c.Step(s, false)
		told(t, e, m.step(false))
		holds(t, c, s, m)
	}
	if c.X[1] != 1 {
		t.Errorf("%x", c.X[1])
	}
	m = ready(rv.Inst{Op: rv.Sw, A: 6, B: 7, Imm: 4})
	m.x[6] = code
	traps(t, m, false, 7, code+4)
}

// Register 0 is 0, also where somebody has put something into the field.
func TestRegisterZero(t *testing.T) {
	m := ready(rv.Inst{Op: rv.Add, Rd: 1, A: 0, B: 0})
	s := m.space(t)
	c := m.core(t)
	c.X[0] = 5
	c, _ = c.Step(s, false)
	if c.X[0] != 0 || c.X[1] != 0 {
		t.Errorf("%x", c.X)
	}
	for _, i := range []rv.Inst{
		{Op: rv.Lui, Imm: 0x1000}, {Op: rv.Auipc}, {Op: rv.Jal, Imm: 8}, {Op: rv.Jalr, A: 9, Imm: 1},
		{Op: rv.Addi, A: 5, Imm: 3}, {Op: rv.Mul, A: 5, B: 6}, {Op: rv.Csrrw, A: 5, Csr: 0x340}, {Op: rv.Csrrsi, Imm: 5, Csr: 0x340},
	} {
		m := ready(i)
		if e := steps(t, m, false); e.Trap || m.x[0] != 0 {
			t.Errorf("%+v: %+v", i, e)
		}
	}
}

// Each instruction on a CSR, for every CSR and some that are none, with
// register and uimm 0 and others, into register 0 and others.
func TestCsrInstructions(t *testing.T) {
	for _, n := range numbers {
		for op := rv.Csrrw; op <= rv.Csrrci; op++ {
			for _, from := range []uint32{0, 1, 8, 31} {
				for _, rd := range []byte{0, 5, 31} {
					for _, v := range []uint32{0, 0xffffffff, 0x00000088, 0x20000ffd} {
						i := rv.Inst{Op: op, Rd: rd, Imm: from, Csr: n}
						if op <= rv.Csrrc {
							i.A, i.Imm = byte(from), 0
						}
						m := ready(i)
						m.set(from, v)
						for _, timer := range []bool{false, true} {
							m.pc, m.csr[0x300] = code, 0x80
							if e := steps(t, m, timer); t.Failed() {
								t.Fatalf("%+v: %+v", i, e)
							}
						}
					}
				}
			}
		}
	}
}

// It is the register's number that counts, not what is in it.
func TestWritingNothing(t *testing.T) {
	for op := rv.Csrrw; op <= rv.Csrrci; op++ {
		for _, n := range []uint16{0x344, 0xf14} {
			i := rv.Inst{Op: op, Rd: 5, Csr: n}
			m := ready(i)
			if w, _ := rv.Encode(i); op == rv.Csrrw || op == rv.Csrrwi {
				traps(t, m, false, 2, w)
			} else if e := steps(t, m, false); e.Trap || m.x[5] != 0 {
				t.Errorf("%+v: %+v", i, e)
			}
			if op == rv.Csrrs || op == rv.Csrrc {
				i.A = 6
				m = ready(i)
				m.x[6] = 0
				w, _ := rv.Encode(i)
				traps(t, m, false, 2, w)
			}
		}
	}
}

// The steps are counted, but for the one that writes the count.
func TestTheCount(t *testing.T) {
	for _, c := range []struct {
		i        rv.Inst
		x5, want uint32
	}{
		{rv.Inst{Op: rv.Csrrw, Rd: 5, A: 6, Csr: 0xb00}, 1000, 50},
		{rv.Inst{Op: rv.Csrrw, A: 6, Csr: 0xb00}, 0x5007, 50},
		{rv.Inst{Op: rv.Csrrs, Rd: 5, A: 6, Csr: 0xb00}, 1000, 1000 | 50},
		{rv.Inst{Op: rv.Csrrs, Rd: 5, A: 7, Csr: 0xb00}, 1000, 1000},
		{rv.Inst{Op: rv.Csrrs, Rd: 5, Csr: 0xb00}, 1000, 1001},
		{rv.Inst{Op: rv.Csrrc, Rd: 5, A: 6, Csr: 0xb00}, 1000, 1000 &^ 50},
		{rv.Inst{Op: rv.Csrrc, Rd: 5, Csr: 0xb00}, 1000, 1001},
		{rv.Inst{Op: rv.Csrrwi, Rd: 5, Csr: 0xb00}, 1000, 0},
		{rv.Inst{Op: rv.Csrrwi, Rd: 5, Imm: 31, Csr: 0xb00}, 1000, 31},
		{rv.Inst{Op: rv.Csrrsi, Rd: 5, Imm: 7, Csr: 0xb00}, 1000, 1000 | 7},
		{rv.Inst{Op: rv.Csrrsi, Rd: 5, Csr: 0xb00}, 1000, 1001},
		{rv.Inst{Op: rv.Csrrci, Rd: 5, Imm: 8, Csr: 0xb00}, 1000, 1000 &^ 8},
		{rv.Inst{Op: rv.Csrrci, Rd: 5, Csr: 0xb00}, 1000, 1001},
		{rv.Inst{Op: rv.Csrrw, Rd: 5, A: 6, Csr: 0x340}, 0x12345678, 1001},
		{rv.Inst{Op: rv.Csrrw, Rd: 5, A: 6, Csr: 0xb01}, 0x5007, 1001},
		{rv.Inst{Op: rv.Ecall}, 0x5007, 1001},
		{rv.Inst{Op: rv.Mret}, 0x5007, 1001},
	} {
		m := ready(c.i)
		m.x[6], m.x[7] = 50, 0
		steps(t, m, false)
		if m.x[5] != c.x5 || m.csr[0xb00] != c.want {
			t.Errorf("%+v: %d, %d", c.i, m.x[5], m.csr[0xb00])
		}
	}
	m := ready(rv.Inst{Op: rv.Wfi}, rv.Inst{Op: rv.Wfi})
	m.csr[0xb00] = 0xffffffff
	steps(t, m, false)
	if m.csr[0xb00] != 0 {
		t.Errorf("%d", m.csr[0xb00])
	}
	steps(t, m, false)
}

// mip is the timer, whether or not the core minds it.
func TestPending(t *testing.T) {
	for _, timer := range []bool{true, false, true} {
		m := ready(rv.Inst{Op: rv.Csrrs, Rd: 5, Csr: 0x344})
		m.csr[0x300] = 0
		s := m.space(t)
		c, _ := m.core(t).Step(s, timer)
		m.step(timer)
		holds(t, c, s, m)
		want := uint32(0)
		if timer {
			want = 0x80
		}
		if reads(t, c, 0x344, want); c.X[5] != want {
			t.Errorf("%x", c.X[5])
		}
		// The next step has a timer of its own.
		c.PC = code
		c, _ = c.Step(s, !timer)
		if reads(t, c, 0x344, 0x80-want); c.X[5] != 0x80-want {
			t.Errorf("%x", c.X[5])
		}
	}
}

// Into a handler and back: MIE is kept in MPIE meanwhile.
func TestThereAndBack(t *testing.T) {
	for _, status := range []uint32{0, 8, 0x80, 0x88} {
		m := ready(rv.Inst{Op: rv.Ecall})
		copy(m.ram[0x800:], rv.Code(rv.Inst{Op: rv.Mret}))
		m.csr[0x300] = status
		traps(t, m, false, 11, 0)
		steps(t, m, false)
		if want := 0x80 | status&8; m.pc != code || m.csr[0x300] != want {
			t.Errorf("from %x: PC %x, mstatus %x", status, m.pc, m.csr[0x300])
		}
	}
	for _, status := range []uint32{0, 8, 0x80, 0x88} {
		m := ready(rv.Inst{Op: rv.Mret})
		m.csr[0x300], m.csr[0x341] = status, 0xfffffffc
		if e := steps(t, m, false); m.pc != 0xfffffffc || m.csr[0x300] != 0x80|status>>4&8 || e.Who.Op != rv.Mret {
			t.Errorf("from %x: PC %x, mstatus %x", status, m.pc, m.csr[0x300])
		}
	}
}

// The handler of all traps is at mtvec, also of the timer, and also where
// nothing can be fetched.
func TestHandlers(t *testing.T) {
	for _, at := range []uint32{0, 4, code + 0x800, data, 0xfffffffc} {
		m := ready(rv.Inst{Op: rv.Ecall})
		m.csr[0x305] = at
		traps(t, m, false, 11, 0)
		m = ready(rv.Inst{Op: rv.Wfi})
		m.csr[0x305] = at
		traps(t, m, true, 0x80000007, code)
	}
}
