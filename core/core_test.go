package core_test

import (
	"math"
	"strconv"
	"testing"

	"curtilage/core"
	"curtilage/engine"
	"curtilage/rv"
)

// reads holds what a CSR is.
func reads(t *testing.T, c core.Core, n uint16, want uint32) {
	t.Helper()
	if v, ok := c.Csr(n); v != want || !ok {
		t.Errorf("CSR %x: %x and %v, not %x", n, v, ok, want)
	}
}

// set returns the core with a CSR that was set.
func set(t *testing.T, c core.Core, n uint16, v uint32) core.Core {
	t.Helper()
	next, ok := c.Set(n, v)
	if !ok {
		t.Fatalf("CSR %x was not set", n)
	}
	return next
}

// with returns a machine in stage 1 whose program begins with these.
func with(l ...rv.Inst) *machine {
	m := newMachine(1)
	m.pc = 0x20000000
	copy(m.ram[:], rv.Code(l...))
	return m
}

func TestTheExample(t *testing.T) {
	m := with(rv.Inst{Op: rv.Addi, Rd: 1, Imm: 5})
	c, _ := core.New(0x20000000).Step(m.space(t), false)
	if c.X[1] != 5 || c.PC != 0x20000004 {
		t.Errorf("%x", c)
	}
}

func TestNew(t *testing.T) {
	for _, pc := range []uint32{0, 1, 2, 3, 4, 0x20000000, 0x7fffffff, 0xffffffff} {
		c := core.New(pc)
		if c.PC != pc || c.X != [32]uint32{} {
			t.Errorf("%x", c)
		}
		for n := range masks {
			reads(t, c, n, 0)
		}
		if c != core.New(pc) || c == core.New(pc+1) {
			t.Error("new cores are not told apart by their PC")
		}
	}
}

// Of all the numbers, ten have a CSR, and eight one that can be written.
func TestEveryCsr(t *testing.T) {
	c := core.New(0x20000000).With(5, 77)
	for n := range 1 << 16 {
		bits, there := masks[uint16(n)]
		if v, ok := c.Csr(uint16(n)); v != 0 || ok != there {
			t.Errorf("CSR %x: %x, %v", n, v, ok)
		}
		for _, v := range []uint32{0, 1, 0xffffffff, 0x12345678} {
			next, ok := c.Set(uint16(n), v)
			if ok != (there && bits != 0) || !ok && next != c {
				t.Errorf("CSR %x was set to %x: %v", n, v, ok)
			}
			if ok {
				reads(t, next, uint16(n), v&bits)
			}
		}
	}
}

// Setting one sets just the bits that it has, and no other.
func TestSet(t *testing.T) {
	for n, bits := range masks {
		if bits == 0 {
			continue
		}
		c := core.New(0x20000000).With(1, 0xffffffff)
		for other := range masks {
			if masks[other] != 0 {
				c = set(t, c, other, 0x5a5a5a5a)
			}
		}
		for i := range 32 {
			for _, v := range []uint32{1 << i, ^(uint32(1) << i)} {
				next := set(t, c, n, v)
				reads(t, next, n, v&bits)
				for other := range masks {
					if other != n {
						reads(t, next, other, 0x5a5a5a5a&masks[other])
					}
				}
				if next.X != c.X || next.PC != c.PC {
					t.Error("the registers have changed")
				}
			}
		}
		reads(t, c, n, 0x5a5a5a5a&bits)
	}
}

// What is read-only stays, also where it is not zero.
func TestReadOnly(t *testing.T) {
	c, _ := core.New(0x20000000).Step(with(rv.Inst{Op: rv.Wfi}).space(t), true)
	reads(t, c, 0x344, 0x80)
	for _, n := range []uint16{0x344, 0xf14} {
		for _, v := range []uint32{0, 1, 0x80, 0xffffffff} {
			if next, ok := c.Set(n, v); ok || next != c {
				t.Errorf("CSR %x was set to %x", n, v)
			}
		}
	}
}

func TestWith(t *testing.T) {
	c := core.New(8)
	for i := range 32 {
		before := c
		c = c.With(i, uint32(100+i))
		want := before
		if i > 0 {
			want.X[i] = uint32(100 + i)
		}
		if c != want {
			t.Errorf("register %d: %x", i, c)
		}
	}
	for _, i := range []int{0, -1, -2, -31, -32, 32, 33, 63, 64, 256, 1 << 32, 1<<32 + 1, math.MaxInt, math.MinInt} {
		if c.With(i, 1) != c {
			t.Errorf("register %d is there", i)
		}
	}
}

func TestSame(t *testing.T) {
	c := core.New(0x20000000)
	for i := range 32 {
		c = c.With(i, uint32(i))
	}
	others := map[string]core.Core{}
	for i := 1; i < 32; i++ {
		others["register "+strconv.Itoa(i)] = c.With(i, 77)
	}
	for n, bits := range masks {
		if bits != 0 {
			others["CSR "+strconv.Itoa(int(n))] = set(t, c, n, 0x80)
		}
	}
	pc := c
	pc.PC++
	others["PC"] = pc
	for name, x := range others {
		if core.Same(c, x) || core.Same(x, c) || !core.Same(x, x) {
			t.Error(name)
		}
		for other, y := range others {
			if core.Same(x, y) != (name == other) {
				t.Error(name, other)
			}
		}
	}
	if !core.Same(c, c) || !core.Same(core.Core{}, core.New(0)) {
		t.Error("equal cores are not the same")
	}
}

// A Core is a value: what becomes of one does not touch the others.
func TestValues(t *testing.T) {
	m := with(rv.Inst{Op: rv.Addi, Rd: 1, A: 1, Imm: 1}, rv.Inst{Op: rv.Csrrw, Rd: 2, A: 1, Csr: 0x340}, rv.Inst{Op: rv.Ecall})
	s := m.space(t)
	c := core.New(0x20000000)
	l := []core.Core{c}
	for range 3 {
		c, _ = c.Step(s, false)
		l = append(l, c)
	}
	again := core.New(0x20000000)
	for i, x := range l {
		if !core.Same(x, again) {
			t.Errorf("core %d has changed", i)
		}
		a := x.With(3, 9)
		b, _ := x.Set(0x340, 9)
		d, _ := x.Run(s, 5)
		if !core.Same(x, again) || core.Same(a, x) || core.Same(b, x) || core.Same(d, x) {
			t.Errorf("core %d is no value", i)
		}
		again, _ = again.Step(s, false)
	}
}

// run holds what a run does, against its steps.
func run(t *testing.T, m *machine, n, want int) core.Core {
	t.Helper()
	c := m.core(t)
	s := m.space(t)
	got, steps := c.Run(s, n)
	if steps != want {
		t.Errorf("%d steps, not %d", steps, want)
	}
	for range want {
		m.step(false)
	}
	holds(t, got, s, m)
	return got
}

// looping is a program that goes on for ever.
func looping() *machine {
	return with(
		rv.Inst{Op: rv.Lui, Rd: 2, Imm: 0x20001000},
		rv.Inst{Op: rv.Addi, Rd: 1, A: 1, Imm: 1},
		rv.Inst{Op: rv.Sw, A: 2, B: 1},
		rv.Inst{Op: rv.Jal, Rd: 3, Imm: ^uint32(7)},
	)
}

func TestRun(t *testing.T) {
	for n := range 50 {
		run(t, looping(), n, n)
		run(t, with(rv.Inst{Op: rv.Wfi}, rv.Inst{Op: rv.Fence}, rv.Inst{Op: rv.Ecall}), n, min(n, 3))
		run(t, with(rv.Inst{Op: rv.Ecall}), n, min(n, 1))
	}
	for _, n := range []int{-1, -2, -1 << 20, -1 << 32, math.MinInt32, math.MinInt} {
		run(t, looping(), n, 0)
	}
	for _, n := range []int{1 << 20, math.MaxInt32, math.MaxInt} {
		run(t, with(rv.Inst{Op: rv.Wfi}, rv.Inst{Op: rv.Ebreak}), n, 2)
	}
}

// A trap ends the run, also where its handler would go on.
func TestRunEndsAtATrap(t *testing.T) {
	for _, i := range []rv.Inst{
		{Op: rv.Ecall}, {Op: rv.Ebreak}, {Op: rv.Jal, Imm: 2}, {Op: rv.Lw, Imm: 1}, {Op: rv.Lw},
		{Op: rv.Sw, Imm: 1}, {Op: rv.Sw}, {Op: rv.Csrrw, Csr: 0x344}, {},
	} {
		m := looping()
		m.csr[0x305] = 0x20000004
		m.put(16, 0)
		copy(m.ram[12:], rv.Code(i))
		c := run(t, m, 100, 4)
		if c.PC != 0x20000004 {
			t.Errorf("%+v: PC %x", i, c.PC)
		}
	}
	m := looping()
	m.pc = 0
	run(t, m, 100, 1)
	m = looping()
	m.pc += 2
	run(t, m, 100, 1)
}

// A run has no timer, whatever there was before.
func TestRunWithoutATimer(t *testing.T) {
	m := looping()
	m.csr[0x300], m.csr[0x304] = 8, 0x80
	run(t, m, 100, 100)

	s := looping().space(t)
	c, e := set(t, core.New(0x20000000), 0x304, 0x80).Step(s, true)
	if e.Trap {
		t.Error("the timer was not minded")
	}
	c, n := set(t, c, 0x300, 8).Run(s, 10)
	if n != 10 {
		t.Errorf("%d steps", n)
	}
	reads(t, c, 0x344, 0)
}

// As many steps as are promised.
func TestALongRun(t *testing.T) {
	s := looping().space(t)
	c, n := core.New(0x20000000).Run(s, 1<<20)
	if n != 1<<20 || c.X[1] != (1<<20+1)/3 {
		t.Errorf("%d steps, %d rounds", n, c.X[1])
	}
	reads(t, c, 0xb00, 1<<20)
}

func TestNilSpace(t *testing.T) {
	for seed := range uint64(20) {
		m := newMachine(1)
		anyState(random(seed), m)
		c := m.core(t)
		for _, timer := range []bool{false, true} {
			next, e := c.Step(nil, timer)
			if next != c {
				t.Error("the core has changed")
			}
			told(t, e, core.Event{})
		}
		for _, n := range []int{-1, 0, 1, 5, 1 << 20, math.MaxInt} {
			if next, done := c.Run(nil, n); next != c || done != 0 {
				t.Errorf("%d steps", done)
			}
		}
	}
	var s *engine.Space
	c, e := set(t, set(t, core.New(2), 0x300, 8), 0x304, 0x80).Step(s, true)
	reads(t, c, 0xb00, 0)
	reads(t, c, 0x344, 0)
	told(t, e, core.Event{})
}

func BenchmarkStep(b *testing.B) {
	s := engine.NewSpace(nil, nil)
	s.Stage, s.RAM = 1, looping().ram
	c := core.New(0x20000000)
	for b.Loop() {
		c, _ = c.Step(s, false)
	}
}
