package core

import (
	"curtilage/api"
	"curtilage/engine"
	"curtilage/rv"
)

// The causes of traps.
const (
	crooked      = 0 // a PC, or where a jump leads
	unfetched    = 1
	illegal      = 2
	breakpoint   = 3
	loadCrooked  = 4
	loadFault    = 5
	storeCrooked = 6
	storeFault   = 7
	call         = 11
	timerFired   = 1<<31 + 7
)

// wordSize is how many bytes an instruction has.
const wordSize = 4

// Step executes an instruction, or what comes before it.
func (c Core) Step(s *engine.Space, timer bool) (Core, Event) {
	if s == nil {
		return c, Event{}
	}
	c.X[0] = 0 // the field is open to everyone
	c.csrs[mip] = 0
	if timer {
		c.csrs[mip] = timerBit
	}
	next, e := c.act(s)
	if !writes(e.Who) || e.Who.Csr != csrs[mcycle].number {
		next.csrs[mcycle]++
	}
	return next, e
}

// act does what a step does, but for the count of steps.
func (c Core) act(s *engine.Space) (Core, Event) {
	switch {
	case c.interrupted():
		return c.trap(timerFired, c.PC)
	case c.PC%wordSize != 0:
		return c.trap(crooked, c.PC)
	}
	w, err := s.Fetch(c.PC)
	if err != api.OK {
		return c.trap(unfetched, c.PC)
	}
	i, ok := rv.Decode(w)
	if !ok {
		return c.trap(illegal, w)
	}
	return c.execute(s, i, w)
}

// interrupted tells whether the timer has fired, and the core minds it.
func (c Core) interrupted() bool {
	return c.csrs[mip]&c.csrs[mie]&timerBit != 0 && c.csrs[mstatus]&interrupts != 0
}

// trap returns the core at its handler.
func (c Core) trap(cause, value uint32) (Core, Event) {
	c = c.put(mepc, c.PC).put(mcause, cause).put(mtval, value)
	before := uint32(0)
	if c.csrs[mstatus]&interrupts != 0 {
		before = previous
	}
	c = c.put(mstatus, before)
	c.PC = c.csrs[mtvec]
	return c, Event{Trap: true, Cause: cause}
}

// back returns the core where the trap came from.
func (c Core) back(i rv.Inst) (Core, Event) {
	now := uint32(previous)
	if c.csrs[mstatus]&previous != 0 {
		now |= interrupts
	}
	c = c.put(mstatus, now)
	c.PC = c.csrs[mepc]
	return c, Event{Who: i}
}

// execute executes the instruction i, whose word is w.
func (c Core) execute(s *engine.Space, i rv.Inst, w uint32) (Core, Event) {
	switch i.Op {
	case rv.Lui:
		return c.result(i, i.Imm)
	case rv.Auipc:
		return c.result(i, c.PC+i.Imm)
	case rv.Jal:
		return c.jump(i, c.PC+i.Imm)
	case rv.Jalr:
		return c.jump(i, (c.X[i.A]+i.Imm)&^1)
	case rv.Beq, rv.Bne, rv.Blt, rv.Bge, rv.Bltu, rv.Bgeu:
		return c.branch(i)
	case rv.Lb, rv.Lh, rv.Lw, rv.Lbu, rv.Lhu:
		return c.load(s, i)
	case rv.Sb, rv.Sh, rv.Sw:
		return c.store(s, i)
	case rv.Fence, rv.Wfi:
		return c.goOn(i)
	case rv.Ecall:
		return c.trap(call, 0)
	case rv.Ebreak:
		return c.trap(breakpoint, c.PC)
	case rv.Mret:
		return c.back(i)
	case rv.Csrrw, rv.Csrrs, rv.Csrrc, rv.Csrrwi, rv.Csrrsi, rv.Csrrci:
		return c.exchange(i, w)
	}
	return c.compute(i)
}

// goOn returns the core behind an instruction.
func (c Core) goOn(i rv.Inst) (Core, Event) {
	c.PC += wordSize
	return c, Event{Who: i}
}

// result returns the core behind an instruction that leads to v.
func (c Core) result(i rv.Inst, v uint32) (Core, Event) {
	return c.With(int(i.Rd), v).goOn(i)
}

// compute executes an instruction of the registers alone.
func (c Core) compute(i rv.Inst) (Core, Event) {
	b := c.X[i.B]
	if i.Op >= rv.Addi && i.Op <= rv.Srai {
		b = i.Imm
	}
	v, _ := rv.Alu(i.Op, c.X[i.A], b)
	return c.result(i, v)
}

// jump goes on at an address, and keeps where it came from.
func (c Core) jump(i rv.Inst, to uint32) (Core, Event) {
	if to%wordSize != 0 {
		return c.trap(crooked, to)
	}
	c, e := c.result(i, c.PC+wordSize)
	c.PC = to
	return c, e
}

// branch goes on at another address if the branch is taken.
func (c Core) branch(i rv.Inst) (Core, Event) {
	if !rv.Takes(i.Op, c.X[i.A], c.X[i.B]) {
		return c.goOn(i)
	}
	return c.jump(i, c.PC+i.Imm) // a branch has no register to keep anything in
}

// load executes a load.
func (c Core) load(s *engine.Space, i rv.Inst) (Core, Event) {
	at, size := c.X[i.A]+i.Imm, sizeOf(i.Op)
	if at%size != 0 {
		return c.trap(loadCrooked, at)
	}
	p, err := s.Load(api.Core, at, int(size))
	if err != api.OK {
		return c.trap(loadFault, at)
	}
	return c.result(i, loaded(i.Op, p))
}

// store executes a store.
func (c Core) store(s *engine.Space, i rv.Inst) (Core, Event) {
	at, size := c.X[i.A]+i.Imm, sizeOf(i.Op)
	if at%size != 0 {
		return c.trap(storeCrooked, at)
	}
	p := bytesOf(c.X[i.B], size)
	if err := s.Store(api.Core, at, p); err != api.OK {
		return c.trap(storeFault, at)
	}
	c, e := c.goOn(i)
	e.At, e.Wrote = at, p
	return c, e
}

// sizeOf returns how many bytes an instruction loads or stores.
func sizeOf(op byte) uint32 {
	switch op {
	case rv.Lb, rv.Lbu, rv.Sb:
		return 1
	case rv.Lh, rv.Lhu, rv.Sh:
		return 2
	}
	return wordSize
}

// loaded returns what a register becomes by loading these bytes.
func loaded(op byte, p []byte) uint32 {
	v := uint32(0)
	for i, b := range p {
		v |= uint32(b) << (8 * i)
	}
	switch op {
	case rv.Lb:
		return uint32(int8(v))
	case rv.Lh:
		return uint32(int16(v))
	}
	return v
}

// bytesOf returns the lowest bytes of a register, lowest first.
func bytesOf(v, size uint32) []byte {
	p := make([]byte, size)
	for i := range p {
		p[i] = byte(v >> (8 * i))
	}
	return p
}
