package core

import "curtilage/rv"

// The CSRs, by their places in a core.
const (
	mstatus = iota
	mie
	mtvec
	mscratch
	mepc
	mcause
	mtval
	mip
	mcycle
	mhartid
	places
)

// The bits of mstatus, mie and mip.
const (
	interrupts = 1 << 3 // MIE
	previous   = 1 << 7 // MPIE
	timerBit   = 1 << 7 // MTIE, and that of mip
)

// What can be written of a whole CSR, and of an address.
const (
	whole   = 1<<32 - 1
	aligned = whole - 3
)

// csrs has the number of each CSR, and the bits of it that can be written:
// none, if it is read-only.
var csrs = [places]struct {
	number uint16
	bits   uint32
}{
	mstatus:  {0x300, interrupts | previous},
	mie:      {0x304, timerBit},
	mtvec:    {0x305, aligned},
	mscratch: {0x340, whole},
	mepc:     {0x341, aligned},
	mcause:   {0x342, whole},
	mtval:    {0x343, whole},
	mip:      {0x344, 0},
	mcycle:   {0xb00, whole},
	mhartid:  {0xf14, 0},
}

// placeOf returns the place of the CSR with a number, or -1.
func placeOf(number uint16) int {
	for i, r := range csrs {
		if r.number == number {
			return i
		}
	}
	return -1
}

// Csr returns a CSR, by its number.
func (c Core) Csr(n uint16) (uint32, bool) {
	i := placeOf(n)
	if i < 0 {
		return 0, false
	}
	return c.csrs[i], true
}

// Set returns the core with v in those bits of a CSR that it has.
func (c Core) Set(n uint16, v uint32) (Core, bool) {
	i := placeOf(n)
	if i < 0 || csrs[i].bits == 0 {
		return c, false
	}
	return c.put(i, v), true
}

// put returns the core with v in what can be written of the CSR in a place.
func (c Core) put(place int, v uint32) Core {
	c.csrs[place] = v & csrs[place].bits
	return c
}

// exchange executes an instruction w that reads a CSR, and writes it or not.
func (c Core) exchange(i rv.Inst, w uint32) (Core, Event) {
	old, ok := c.Csr(i.Csr)
	if !ok {
		return c.trap(illegal, w)
	}
	next := c
	if writes(i) {
		if next, ok = c.Set(i.Csr, c.changed(i, old)); !ok {
			return c.trap(illegal, w)
		}
	}
	return next.result(i, old)
}

// changed returns what becomes of a CSR that was old.
func (c Core) changed(i rv.Inst, old uint32) uint32 {
	switch i.Op {
	case rv.Csrrw:
		return c.X[i.A]
	case rv.Csrrs:
		return old | c.X[i.A]
	case rv.Csrrc:
		return old &^ c.X[i.A]
	case rv.Csrrsi:
		return old | i.Imm
	case rv.Csrrci:
		return old &^ i.Imm
	}
	return i.Imm
}

// writes tells whether an instruction writes its CSR: it is not the value that
// counts, but whether the instruction names one.
func writes(i rv.Inst) bool {
	switch i.Op {
	case rv.Csrrw, rv.Csrrwi:
		return true
	case rv.Csrrs, rv.Csrrc:
		return i.A != 0
	case rv.Csrrsi, rv.Csrrci:
		return i.Imm != 0
	}
	return false
}
