package core_test

import (
	"encoding/binary"
	"math/bits"
	"strings"
	"testing"

	"curtilage/api"
	"curtilage/core"
	"curtilage/engine"
	"curtilage/flash"
	"curtilage/otp"
	"curtilage/rv"
)

// The chapter and the specification once more, bit by bit and byte by byte:
// what the core is held against.

// masks has the CSRs, each with the bits of it that can be written.
var masks = map[uint16]uint32{
	0x300: 0x00000088, 0x304: 0x00000080, 0x305: 0xfffffffc, 0x340: 0xffffffff,
	0x341: 0xfffffffc, 0x342: 0xffffffff, 0x343: 0xffffffff, 0x344: 0,
	0xb00: 0xffffffff, 0xf14: 0,
}

// rights has what the core may do where, in the stages.
var rights = [3]map[string]string{
	{},
	{"code": "rx", "data": "rw", "store": "r", "port": "rw", "fuses": "r"},
	{"code": "rwx", "data": "rw", "store": "r", "port": "rw", "fuses": "r"},
}

// machine is a core and its memory.
type machine struct {
	x      [32]uint32
	pc     uint32
	csr    map[uint16]uint32
	stage  int
	ram    [8192]byte
	port   [64]byte
	flash  []byte
	fuses  [64]uint32
	locked [64]bool
}

// newMachine returns a machine in a stage whose memory has other bytes
// everywhere.
func newMachine(stage int) *machine {
	m := &machine{stage: stage, csr: map[uint16]uint32{}}
	for n := range masks {
		m.csr[n] = 0
	}
	r := random(1)
	copy(m.ram[:], r.bytes(8192))
	copy(m.port[:], r.bytes(64))
	m.flash = r.bytes(10240)
	for i := range m.fuses {
		m.fuses[i] = r.next()
		m.locked[i] = i >= 27 && i%3 == 0
	}
	return m
}

// put stores words in the RAM, from a byte of it on.
func (m *machine) put(at int, words ...uint32) {
	for i, w := range words {
		binary.LittleEndian.PutUint32(m.ram[at+4*i:], w)
	}
}

// space returns a space that has what the machine has.
func (m *machine) space(t *testing.T) *engine.Space {
	t.Helper()
	f, e := flash.New(40)
	must(t, e)
	must(t, f.Write(0, m.flash))
	c, e := otp.Of(m.fuses[:])
	must(t, e)
	for i, is := range m.locked {
		if is {
			must(t, c.Lock(i))
		}
	}
	s := engine.NewSpace(f, c)
	s.Stage, s.RAM, s.Port = m.stage, m.ram, m.port
	return s
}

// core returns a core that has what the machine has, but for mip, which nobody
// can set.
func (m *machine) core(t *testing.T) core.Core {
	t.Helper()
	c := core.New(m.pc)
	for i, v := range m.x {
		c = c.With(i, v)
	}
	for n, v := range m.csr {
		if masks[n] != 0 {
			var ok bool
			if c, ok = c.Set(n, v); !ok {
				t.Fatalf("CSR %x was not set", n)
			}
		}
	}
	return c
}

// fault is a trap that an instruction leads to.
type fault struct{ cause, value uint32 }

// bit returns the bits of w from hi down to lo.
func bit(w uint32, hi, lo int) uint32 {
	return w << (31 - hi) >> (31 - hi + lo)
}

// signed returns the number that the lowest n bits of v are.
func signed(v uint32, n int) uint32 {
	if bit(v, n-1, n-1) == 1 {
		return v | ^uint32(0)<<n
	}
	return bit(v, n-1, 0)
}

// area returns the name of the region of an address, and the offset there.
func area(at uint32) (string, uint32) {
	switch {
	case at >= 0x20000000 && at <= 0x20000fff:
		return "code", at - 0x20000000
	case at >= 0x20001000 && at <= 0x20001fff:
		return "data", at - 0x20000000
	case at >= 0x10000000 && at <= 0x100027ff:
		return "store", at - 0x10000000
	case at >= 0x40000000 && at <= 0x4000003f:
		return "port", at - 0x40000000
	case at >= 0x60000000 && at <= 0x600000ff:
		return "fuses", at - 0x60000000
	}
	return "", 0
}

// may tells whether the core may do that at an address.
func (m *machine) may(at uint32, what string) bool {
	name, _ := area(at)
	return m.stage >= 0 && m.stage < len(rights) && strings.Contains(rights[m.stage][name], what)
}

// byteAt returns a byte of the memory, and whether it can be read.
func (m *machine) byteAt(at uint32) (byte, bool) {
	name, i := area(at)
	switch name {
	case "code", "data":
		return m.ram[i], true
	case "store":
		return m.flash[i], true
	case "port":
		return m.port[i], true
	}
	if m.locked[i/4] {
		return 0, false
	}
	return byte(m.fuses[i/4] >> (24 - 8*(i%4))), true
}

// load returns n bytes as a number.
func (m *machine) load(at uint32, n uint32) uint32 {
	if at%n != 0 {
		panic(fault{4, at})
	}
	v := uint32(0)
	for i := n; i > 0; i-- {
		if !m.may(at+i-1, "r") {
			panic(fault{5, at})
		}
		b, ok := m.byteAt(at + i - 1)
		if !ok {
			panic(fault{5, at})
		}
		v = v<<8 + uint32(b)
	}
	return v
}

// store stores the lowest n bytes of a number, and returns them.
func (m *machine) store(at, n, v uint32) []byte {
	if at%n != 0 {
		panic(fault{6, at})
	}
	p := make([]byte, 4)
	binary.LittleEndian.PutUint32(p, v)
	for i, b := range p[:n] {
		if !m.may(at+uint32(i), "w") {
			panic(fault{7, at})
		}
		if name, to := area(at + uint32(i)); name == "port" {
			m.port[to] = b
		} else {
			m.ram[to] = b
		}
	}
	return p[:n]
}

// step executes a step, and returns what it should tell.
func (m *machine) step(timer bool) core.Event {
	m.csr[0x344] = 0
	if timer {
		m.csr[0x344] = 0x80
	}
	before := m.csr[0xb00]
	counted := true
	e := m.attempt(func() core.Event { return m.begin(timer, &counted) })
	if counted {
		m.csr[0xb00] = before + 1
	}
	return e
}

// attempt does that, or traps where it faults. Nothing has been changed by
// what faults.
func (m *machine) attempt(do func() core.Event) (e core.Event) {
	defer func() {
		if f, ok := recover().(fault); ok {
			m.csr[0x341] = m.pc / 4 * 4
			m.csr[0x342], m.csr[0x343] = f.cause, f.value
			m.csr[0x300] = bit(m.csr[0x300], 3, 3) << 7
			m.pc = m.csr[0x305]
			e = core.Event{Trap: true, Cause: f.cause}
		}
	}()
	return do()
}

// begin finds what the step is, and does it.
func (m *machine) begin(timer bool, counted *bool) core.Event {
	switch {
	case timer && m.csr[0x304] == 0x80 && bit(m.csr[0x300], 3, 3) == 1:
		panic(fault{0x80000007, m.pc})
	case m.pc%4 > 0:
		panic(fault{0, m.pc})
	case !m.may(m.pc, "x"):
		panic(fault{1, m.pc})
	}
	_, i := area(m.pc)
	w := binary.LittleEndian.Uint32(m.ram[i:])
	who, ok := rv.Decode(w)
	if !ok {
		panic(fault{2, w})
	}
	e := core.Event{Who: who}
	to := m.pc + 4
	switch rd := bit(w, 11, 7); bit(w, 6, 0) {
	case 0b0110111: // LUI
		m.set(rd, w&0xfffff000)
	case 0b0010111: // AUIPC
		m.set(rd, w&0xfffff000+m.pc)
	case 0b1101111: // JAL
		to = m.pc + signed(bit(w, 31, 31)<<20|bit(w, 19, 12)<<12|bit(w, 20, 20)<<11|bit(w, 30, 21)<<1, 21)
		m.leads(to)
		m.set(rd, m.pc+4)
	case 0b1100111: // JALR
		to = (m.x[bit(w, 19, 15)] + signed(bit(w, 31, 20), 12)) / 2 * 2
		m.leads(to)
		m.set(rd, m.pc+4)
	case 0b1100011:
		if m.taken(w) {
			to = m.pc + signed(bit(w, 31, 31)<<12|bit(w, 7, 7)<<11|bit(w, 30, 25)<<5|bit(w, 11, 8)<<1, 13)
			m.leads(to)
		}
	case 0b0000011:
		at := m.x[bit(w, 19, 15)] + signed(bit(w, 31, 20), 12)
		size := uint32(1) << bit(w, 13, 12)
		v := m.load(at, size)
		if bit(w, 14, 14) == 0 {
			v = signed(v, int(8*size))
		}
		m.set(rd, v)
	case 0b0100011:
		at := m.x[bit(w, 19, 15)] + signed(bit(w, 31, 25)<<5|rd, 12)
		e.At, e.Wrote = at, m.store(at, 1<<bit(w, 13, 12), m.x[bit(w, 24, 20)])
	case 0b0010011:
		b := signed(bit(w, 31, 20), 12)
		m.set(rd, operate(bit(w, 14, 12), bit(w, 14, 12) == 5 && bit(w, 30, 30) == 1, m.x[bit(w, 19, 15)], b))
	case 0b0110011:
		a, b := m.x[bit(w, 19, 15)], m.x[bit(w, 24, 20)]
		if bit(w, 25, 25) == 1 {
			m.set(rd, multiply(bit(w, 14, 12), a, b))
		} else {
			m.set(rd, operate(bit(w, 14, 12), bit(w, 30, 30) == 1, a, b))
		}
	case 0b1110011:
		to = m.system(w, counted)
	}
	m.pc = to
	return e
}

// set writes a register.
func (m *machine) set(rd, v uint32) {
	if rd > 0 {
		m.x[rd] = v
	}
}

// leads faults if no instruction can be at an address.
func (m *machine) leads(to uint32) {
	if to&3 != 0 {
		panic(fault{0, to})
	}
}

// taken tells whether a branch is taken.
func (m *machine) taken(w uint32) bool {
	a, b := m.x[bit(w, 19, 15)], m.x[bit(w, 24, 20)]
	is := a == b
	switch bit(w, 14, 13) {
	case 2:
		is = int32(a) < int32(b)
	case 3:
		is = a < b
	}
	return is != (bit(w, 12, 12) == 1)
}

// operate returns what an operation leads to, by its funct3; other stands for
// its other form.
func operate(funct uint32, other bool, a, b uint32) uint32 {
	switch {
	case funct == 0 && other:
		return a + ^b + 1
	case funct == 0:
		return a + b
	case funct == 1:
		return a << (b % 32)
	case funct == 2:
		return uint32(uint64(int64(int32(a))-int64(int32(b))) >> 63)
	case funct == 3:
		_, less := bits.Sub32(a, b, 0)
		return less
	case funct == 4:
		return (a | b) - (a & b)
	case funct == 5 && other:
		return uint32(int64(int32(a)) >> (b % 32))
	case funct == 5:
		return a >> (b % 32)
	case funct == 6:
		return a&^b + b
	}
	return a - a&^b
}

// multiply returns what an operation of M leads to, by its funct3.
func multiply(funct, a, b uint32) uint32 {
	x, y := int64(int32(a)), int64(int32(b))
	hi, lo := bits.Mul32(a, b)
	switch funct {
	case 0:
		return lo
	case 1:
		return uint32(uint64(x*y) >> 32)
	case 2:
		return uint32(uint64(x*int64(b)) >> 32)
	case 3:
		return hi
	case 4:
		if b == 0 {
			return 0xffffffff
		}
		return uint32(x / y)
	case 5:
		if b == 0 {
			return 0xffffffff
		}
		return a / b
	case 6:
		if b == 0 {
			return a
		}
		return uint32(x % y)
	}
	if b == 0 {
		return a
	}
	return a % b
}

// system executes an instruction of SYSTEM, and returns where it goes on.
func (m *machine) system(w uint32, counted *bool) uint32 {
	n, from, how := uint16(bit(w, 31, 20)), bit(w, 19, 15), bit(w, 14, 12)
	switch {
	case how == 0 && n == 0:
		panic(fault{11, 0})
	case how == 0 && n == 1:
		panic(fault{3, m.pc})
	case how == 0 && n == 0x302:
		m.csr[0x300] = 0x80 + bit(m.csr[0x300], 7, 7)<<3
		return m.csr[0x341]
	case how == 0: // WFI
		return m.pc + 4
	}
	old, ok := m.csr[n]
	writes := bit(how, 1, 0) == 1 || from != 0
	if !ok || writes && masks[n] == 0 {
		panic(fault{2, w})
	}
	v := from
	if bit(how, 2, 2) == 0 {
		v = m.x[from]
	}
	switch bit(how, 1, 0) {
	case 2:
		v |= old
	case 3:
		v = old & (old ^ v)
	}
	if writes {
		m.csr[n] = v & masks[n]
		*counted = n != 0xb00
	}
	m.set(bit(w, 11, 7), old)
	return m.pc + 4
}

// source is a row of numbers that look random.
type source struct{ state uint64 }

// random returns the row that begins with a seed.
func random(seed uint64) *source {
	return &source{seed*0x9e3779b97f4a7c15 + 1}
}

// next returns the next number.
func (r *source) next() uint32 {
	r.state = r.state*6364136223846793005 + 1442695040888963407
	x := r.state ^ r.state>>29
	return uint32(x * 0xbf58476d1ce4e5b9 >> 32)
}

// below returns a number below n.
func (r *source) below(n int) int {
	return int(r.next() % uint32(n))
}

// bytes returns n bytes.
func (r *source) bytes(n int) []byte {
	p := make([]byte, n)
	for i := range p {
		p[i] = byte(r.next())
	}
	return p
}

// pick returns one of these.
func pick[T any](r *source, l ...T) T {
	return l[r.below(len(l))]
}

// must holds that there is no error.
func must(t *testing.T, e api.Errno) {
	t.Helper()
	if e != api.OK {
		t.Fatalf("error %d", e)
	}
}

// told holds what a step tells.
func told(t *testing.T, got, want core.Event) {
	t.Helper()
	if got.Trap != want.Trap || got.Cause != want.Cause || got.Who != want.Who || got.At != want.At || string(got.Wrote) != string(want.Wrote) {
		t.Errorf("told %+v, not %+v", got, want)
	}
}

// holds holds that core and space have what the machine has.
func holds(t *testing.T, c core.Core, s *engine.Space, m *machine) {
	t.Helper()
	if c.X != m.x {
		t.Errorf("registers %x, not %x", c.X, m.x)
	}
	if c.PC != m.pc {
		t.Errorf("PC %x, not %x", c.PC, m.pc)
	}
	for n, want := range m.csr {
		if v, ok := c.Csr(n); v != want || !ok {
			t.Errorf("CSR %x: %x, not %x", n, v, want)
		}
	}
	if s.Stage != m.stage || s.RAM != m.ram || s.Port != m.port {
		t.Error("the space is another one")
	}
}

// unmoved holds that what a core cannot write is as it was.
func unmoved(t *testing.T, s *engine.Space, m *machine) {
	t.Helper()
	p, e := s.Flash.Read(0, len(m.flash))
	must(t, e)
	if string(p) != string(m.flash) {
		t.Error("the flash has changed")
	}
	for i, v := range s.Chip.Words() {
		if s.Chip.Locked(i) != m.locked[i] || v != m.fuses[i] {
			t.Errorf("word %d has changed", i)
		}
	}
}
