package port_test

import (
	"bytes"
	"encoding/binary"
	"math"
	"slices"
	"testing"

	"curtilage/port"
)

// The masters.
const (
	rom  = 0
	core = 1
	dma  = 2
	host = 3
)

// others are numbers of masters that are not the core, and of none.
var others = []int{rom, dma, host, -1, -2, 4, 5, 256, 257, 1 << 32, 1<<32 + 1, math.MaxInt, math.MinInt}

// strangers are offsets that are not in the port.
var strangers = []int{64, 65, 256, 264, 1 << 32, 1<<32 + 8, -1 << 32, math.MaxInt32, math.MinInt32, math.MaxInt, math.MaxInt - 3, math.MinInt, math.MinInt + 1}

// has holds what a port has output.
func has(t *testing.T, p *port.Port, out string, messages ...uint32) {
	t.Helper()
	if got := p.Out(); string(got) != out {
		t.Errorf("output: %x, not %x", got, out)
	}
	if got := p.Messages(); !slices.Equal(got, messages) {
		t.Errorf("messages: %x, not %x", got, messages)
	}
}

func TestTheExample(t *testing.T) {
	p := port.New()
	p.Wrote(core, 0, []byte{65})
	has(t, p, "A")
}

func TestNew(t *testing.T) {
	p := port.New()
	has(t, p, "")
	if p.Time() != 0 {
		t.Errorf("time %d", p.Time())
	}
	q := port.New()
	q.Wrote(core, 0, []byte{1})
	q.Wrote(core, 8, []byte{1, 2, 3, 4})
	q.Tick(nil)
	has(t, p, "")
	if p.Time() != 0 {
		t.Error("two ports are one")
	}
}

// At every offset, with every length: what is output, and what is a message.
func TestWrote(t *testing.T) {
	for off := -20; off < 70; off++ {
		for n := range 20 {
			p := port.New()
			b := some(n)
			var out []byte
			for i, x := range b {
				if off+i == 0 {
					out = append(out, x)
				}
			}
			var messages []uint32
			if off == 8 && n == 4 {
				messages = []uint32{binary.LittleEndian.Uint32(b)}
			}
			p.Wrote(core, off, b)
			if has(t, p, string(out), messages...); t.Failed() {
				t.Fatalf("%d bytes at %d", n, off)
			}
			if !bytes.Equal(b, some(n)) || p.Time() != 0 {
				t.Error("something has changed")
			}
		}
	}
	for _, off := range strangers {
		for n := range 20 {
			p := port.New()
			p.Wrote(core, off, some(n))
			has(t, p, "")
		}
	}
}

// some returns n bytes that differ.
func some(n int) []byte {
	p := make([]byte, n)
	for i := range p {
		p[i] = byte(200 - i)
	}
	return p
}

// What other masters write is nothing.
func TestOtherMasters(t *testing.T) {
	p := port.New()
	for _, who := range others {
		for off := -4; off < 20; off++ {
			for n := range 9 {
				p.Wrote(who, off, some(n))
			}
		}
		has(t, p, "")
	}
}

// What is output stays in order.
func TestOrder(t *testing.T) {
	p := port.New()
	var out []byte
	var messages []uint32
	for i := range uint32(200) {
		p.Wrote(core, 0, []byte{byte(i), 99})
		out = append(out, byte(i))
		if i%3 == 0 {
			p.Wrote(core, 8, binary.LittleEndian.AppendUint32(nil, i<<20+i))
			messages = append(messages, i<<20+i)
		}
		p.Wrote(dma, 0, []byte{1})
		p.Wrote(core, 4, []byte{1, 2, 3, 4})
		p.Wrote(core, 9, []byte{1, 2, 3, 4})
		has(t, p, string(out), messages...)
	}
}

// What goes beyond the most is lost, of either on its own.
func TestMaxOut(t *testing.T) {
	if port.MaxOut != 4096 {
		t.Errorf("%d", port.MaxOut)
	}
	for _, first := range []bool{true, false} {
		p := port.New()
		for i := range 5000 {
			if first {
				p.Wrote(core, 0, []byte{byte(i * 7)})
			} else {
				p.Wrote(core, 8, binary.LittleEndian.AppendUint32(nil, uint32(i*7)))
			}
			if n := len(p.Out()) + len(p.Messages()); n != min(i+1, 4096) {
				t.Fatalf("%d after %d", n, i+1)
			}
		}
		var want []byte
		var list []uint32
		for i := range 4096 {
			if first {
				want = append(want, byte(i*7))
			} else {
				list = append(list, uint32(i*7))
			}
		}
		has(t, p, string(want), list...)
		if first {
			p.Wrote(core, 8, []byte{1, 0, 0, 0})
			has(t, p, string(want), 1)
		} else {
			p.Wrote(core, 0, []byte("x"))
			has(t, p, "x", list...)
		}
		p.Reset()
		p.Wrote(core, 0, []byte("y"))
		p.Wrote(core, 8, []byte{2, 0, 0, 0})
		if len(p.Out()) != max(len(want), 2) && first || len(p.Messages()) != max(len(list), 2) {
			t.Errorf("%d and %d", len(p.Out()), len(p.Messages()))
		}
	}
}

// ticks holds a tick: only the time is stored.
func ticks(t *testing.T, p *port.Port, regs *[64]byte, want bool) {
	t.Helper()
	now := p.Time() + 1
	after := *regs
	binary.LittleEndian.PutUint32(after[16:], now)
	if got := p.Tick(regs); got != want {
		t.Errorf("at %d: fired %v", now, got)
	}
	if *regs != after {
		t.Errorf("at %d: %x, not %x", now, *regs, after)
	}
	if p.Time() != now {
		t.Errorf("the time is %d, not %d", p.Time(), now)
	}
}

func TestTick(t *testing.T) {
	for _, alarm := range []uint32{0, 1, 2, 5, 99, 100, 101, 0x100, 0x01000000, 0x80000000, 0xffffffff} {
		p := port.New()
		var regs [64]byte
		copy(regs[:], some(64))
		binary.LittleEndian.PutUint32(regs[12:], alarm)
		for i := range uint32(300) {
			ticks(t, p, &regs, alarm != 0 && alarm <= i+1)
		}
	}
}

// The timer is asked anew in each tick, and fires for as long as it should.
func TestTheTimer(t *testing.T) {
	p := port.New()
	var regs [64]byte
	for i, c := range []struct {
		alarm uint32
		want  bool
	}{{0, false}, {2, true}, {4, false}, {4, true}, {4, true}, {0, false}, {1, true}, {9, false}, {9, true}, {11, false}, {0xffffffff, false}, {12, true}} {
		binary.LittleEndian.PutUint32(regs[12:], c.alarm)
		if ticks(t, p, &regs, c.want); t.Failed() {
			t.Fatalf("tick %d", i+1)
		}
	}
}

// The time that counts is the port's: what somebody has stored there does not.
func TestTheStoredTime(t *testing.T) {
	p := port.New()
	var regs [64]byte
	regs[12] = 3
	copy(regs[16:], []byte{200, 1, 1, 1})
	ticks(t, p, &regs, false)
	copy(regs[16:], []byte{0, 0, 0, 0})
	ticks(t, p, &regs, false)
	ticks(t, p, &regs, true)
	var others [64]byte
	ticks(t, p, &others, false)
}

func TestTickOfNothing(t *testing.T) {
	p := port.New()
	var regs [64]byte
	regs[12] = 1
	for i := range uint32(70000) {
		if p.Tick(nil) || p.Time() != i+1 {
			t.Fatalf("tick %d: time %d", i, p.Time())
		}
	}
	ticks(t, p, &regs, true)
	if regs[16] != 0x71 || regs[17] != 0x11 || regs[18] != 1 || regs[19] != 0 {
		t.Errorf("%x", regs[16:20])
	}
}

func TestReset(t *testing.T) {
	p := port.New()
	var regs [64]byte
	regs[12] = 4
	p.Wrote(core, 0, []byte("x"))
	p.Wrote(core, 8, []byte{9, 8, 7, 6})
	for _, n := range []int{0, 1, 3, 4, 10} {
		for i := range n {
			ticks(t, p, &regs, i >= 3)
		}
		before := regs
		p.Reset()
		if p.Time() != 0 || regs != before {
			t.Errorf("the time is %d", p.Time())
		}
		has(t, p, "x", 0x06070809)
	}
}

// What is returned is nobody else's, and arguments are not kept.
func TestMemory(t *testing.T) {
	p := port.New()
	for i := range 100 {
		b := []byte{byte(i), 2, 3, 4}
		p.Wrote(core, 0, b)
		p.Wrote(core, 8, b)
		clear(b)
		out, messages := p.Out(), p.Messages()
		clear(out[:cap(out)])
		clear(messages[:cap(messages)])
		p.Wrote(core, 0, []byte{7})
		again := p.Out()
		if again[2*i] != byte(i) || again[2*i+1] != 7 || p.Messages()[i] != 0x04030200+uint32(i) {
			t.Fatalf("after %d: %x, %x", i, again, p.Messages())
		}
		q, r := p.Out(), p.Out()
		clear(q[:cap(q)])
		if !bytes.Equal(r, again) {
			t.Error("two results share their memory")
		}
	}
	a, b := port.Bytes(5), port.Bytes(5)
	clear(a[:cap(a)])
	if !bytes.Equal(b, []byte{5, 0, 0, 0}) {
		t.Errorf("%x", b)
	}
}

func TestNumbers(t *testing.T) {
	for _, c := range []struct {
		b    []byte
		want uint32
	}{
		{nil, 0}, {[]byte{}, 0}, {[]byte{1}, 1}, {[]byte{0xff}, 0xff}, {[]byte{1, 2}, 0x0201},
		{[]byte{1, 2, 3}, 0x030201}, {[]byte{1, 2, 3, 4}, 0x04030201}, {[]byte{0, 0, 0, 0x80}, 0x80000000},
		{[]byte{1, 2, 3, 4, 5}, 0x04030201}, {[]byte{1, 2, 3, 4, 5, 6, 7, 8, 9}, 0x04030201},
		{[]byte{0xff, 0xff, 0xff, 0xff}, 0xffffffff}, {[]byte{0, 0, 0, 0, 1}, 0}, {make([]byte, 1000), 0},
	} {
		before := bytes.Clone(c.b)
		if got := port.Number(c.b...); got != c.want {
			t.Errorf("%x: %x, not %x", c.b, got, c.want)
		}
		if !bytes.Equal(c.b, before) {
			t.Error("the bytes have changed")
		}
	}
	for i := range uint32(3000) {
		n := i * 2654435761
		b := port.Bytes(n)
		if !bytes.Equal(b, binary.LittleEndian.AppendUint32(nil, n)) || port.Number(b...) != n {
			t.Errorf("%x: %x", n, b)
		}
	}
	if port.Number() != 0 || !bytes.Equal(port.Bytes(0x01020304), []byte{4, 3, 2, 1}) {
		t.Error("numbers are little-endian")
	}
}

func TestNilPort(t *testing.T) {
	var p *port.Port
	var regs [64]byte
	copy(regs[:], some(64))
	regs[12], regs[13], regs[14], regs[15] = 1, 0, 0, 0
	before := regs
	p.Wrote(core, 0, []byte("x"))
	p.Wrote(core, 8, []byte{1, 2, 3, 4})
	p.Reset()
	for range 3 {
		if p.Tick(&regs) || p.Tick(nil) || regs != before {
			t.Error("a nil port ticks")
		}
	}
	if p.Out() != nil || p.Messages() != nil || p.Time() != 0 {
		t.Error("a nil port has something")
	}
}
