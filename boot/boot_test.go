package boot_test

import (
	"bytes"
	"encoding/hex"
	"math"
	"testing"

	"curtilage/api"
	"curtilage/boot"
	"curtilage/core"
	"curtilage/engine"
	"curtilage/flash"
	"curtilage/journal"
	"curtilage/manifest"
	"curtilage/otp"
	"curtilage/rv"
)

func TestTheExample(t *testing.T) {
	s := signerOf(t, 3)
	for _, size := range []int{4, 60, 64} {
		m := machineOf(t, flashOf(t, s.image(t, 0, 0, some(size)), nil), chipOf(t, s.pub, api.Dev, 0))
		b := boot.New()
		n := 0
		for n++; !b.Tick(m); n++ {
			if b.Phase >= 8 {
				t.Fatal("the end is not told")
			}
		}
		if n != 39 || n != boot.Ticks(size, false) || b.Phase != 8 {
			t.Errorf("%d ticks, phase %d", n, b.Phase)
		}
		runs(t, m, b, some(size))
	}
}

func TestTicks(t *testing.T) {
	most := 0
	for size := range 2049 {
		n := 38
		for at := 0; at < size; at += 64 {
			n++
		}
		if got := boot.Ticks(size, false); got != n {
			t.Errorf("%d bytes: %d ticks, not %d", size, got, n)
		}
		if got := boot.Ticks(size, true); got != n+2 {
			t.Errorf("%d bytes: %d ticks, not %d", size, got, n+2)
		}
		most = max(most, boot.Ticks(size, true))
	}
	for _, size := range []int{-1, -2, -63, -64, -65, -1000, math.MinInt32, math.MinInt} {
		if boot.Ticks(size, false) != 38 || boot.Ticks(size, true) != 40 {
			t.Errorf("%d bytes: %d ticks", size, boot.Ticks(size, false))
		}
	}
	for _, size := range []int{2049, 1 << 20, math.MaxInt32, math.MaxInt} {
		if boot.Ticks(size, false) < 70 {
			t.Errorf("%d bytes: %d ticks", size, boot.Ticks(size, false))
		}
	}
	if got := boot.Bound(); got != most || got != 72 {
		t.Errorf("the bound is %d", got)
	}
}

func TestNewMachine(t *testing.T) {
	f, c := blankOf(t, 3), otp.New()
	answered(t, c.Lock(5), api.OK)
	m := boot.NewMachine(f, c)
	if m.Space.Flash != f || m.Space.Chip != c || m.Space.Stage != 0 || m.Space.RAM != [8192]byte{} || m.Space.Port != [64]byte{} {
		t.Error("the space is another one")
	}
	if !core.Same(m.Core, core.New(0)) || !c.Locked(5) {
		t.Error("the core or the chip is another one")
	}
	if m.Engine.Count() != 0 || m.Engine.Locked() || !bytes.Equal(m.Engine.Draw(40), engine.New().Draw(40)) || m.Engine.Meas != engine.New().Meas {
		t.Error("the engine is not blank")
	}
	if m.Port.Time() != 0 || len(m.Port.Out()) != 0 || m.Port.Tick(nil) || m.Port.Time() != 1 {
		t.Error("the port is another one")
	}
	other := boot.NewMachine(f, c)
	other.Space.RAM[0] = 1
	other.Core.PC = 8
	answered(t, other.Engine.Lay(0, 1, api.Digest{}), api.OK)
	if m.Space.RAM[0] != 0 || m.Core.PC != 0 || m.Engine.Count() != 0 || other.Port.Time() != 0 {
		t.Error("two machines share something")
	}
}

func TestNew(t *testing.T) {
	a, b := boot.New(), boot.New()
	if a.Phase != 0 || a.Slot != -1 || a.Man != (manifest.Manifest{}) || a.Trial || a.E != api.OK {
		t.Errorf("%v", a)
	}
	a.Phase = 9
	if b.Phase != 0 {
		t.Error("two boots are one")
	}
}

// Of every state, with every pair of images, in every life.
func TestEveryBoot(t *testing.T) {
	s := signerOf(t, 3)
	good, other, old := s.image(t, 9, 4, some(200)), s.image(t, 10, 8, some(64)), s.image(t, 8, 0, some(32))
	wrong := bytes.Clone(good)
	wrong[len(wrong)-1] ^= 1
	ends := map[api.Errno]int{}
	for _, a := range [][]byte{nil, good, old, wrong} {
		for _, b := range [][]byte{nil, other, old} {
			f := flashOf(t, a, b)
			for _, st := range append(states(6), journal.State{Trial: -1}) {
				g := f
				if st.Seq == 6 {
					g = withState(t, f, st)
				}
				for life := range 5 {
					m := machineOf(t, g, chipOf(t, s.pub, life, 9))
					ends[follow(t, m, worldOf(t, m), nil).E]++
				}
			}
		}
	}
	if ends[api.ErrState] != 228 || ends[api.ErrDead] != 228 || ends[api.ErrNone] == 0 || ends[api.OK] < 100 {
		t.Errorf("%v", ends)
	}
}

// A boot takes the ticks that it is said to, whatever the payload's size.
func TestSizes(t *testing.T) {
	long, quick := signerOf(t, 4), signerOf(t, 3)
	for _, size := range []int{4, 8, 60, 64, 68, 124, 128, 132, 256, 1000, 1024, 1820, 1824, 1828, 1984, 1988, 2044, 2048} {
		s := quick
		if size > 1824 {
			s = long
		}
		for slot := range 2 {
			l := [2][]byte{}
			l[slot] = s.image(t, 1, size/8*4, some(size))
			f := withState(t, flashOf(t, l[0], l[1]), journal.State{Seq: 1, Active: 0, Trial: -1})
			m := machineOf(t, f, chipOf(t, s.pub, api.Prod, 1))
			w := worldOf(t, m)
			b := follow(t, m, w, nil)
			runs(t, m, b, some(size))
			change := slot == 1
			if w.ticks != boot.Ticks(size, change) || w.ticks > boot.Bound() {
				t.Errorf("%d bytes: %d ticks", size, w.ticks)
			}
			m = machineOf(t, f, chipOf(t, s.pub, api.Prod, 1))
			if n := boot.New().Run(m, boot.Bound()); n != w.ticks {
				t.Errorf("%d bytes: %d ticks, not %d", size, n, w.ticks)
			}
		}
	}
}

// After one boot the next one finds what it has written.
func TestATrial(t *testing.T) {
	s := signerOf(t, 3)
	f := withState(t, flashOf(t, s.image(t, 2, 0, some(80)), s.image(t, 3, 4, some(40))), journal.State{Seq: 4, Active: 0, Trial: 1})
	c := chipOf(t, s.pub, api.Prod, 2)
	for i, want := range []struct {
		slot  int
		trial bool
		state journal.State
		ticks int
	}{
		{1, true, journal.State{Seq: 5, Active: 0, Trial: 1, Tries: 1}, 41},
		{1, true, journal.State{Seq: 6, Active: 0, Trial: 1, Tries: 2}, 41},
		{1, true, journal.State{Seq: 7, Active: 0, Trial: 1, Tries: 3}, 41},
		{0, false, journal.State{Seq: 8, Active: 0, Trial: -1}, 42},
		{0, false, journal.State{Seq: 8, Active: 0, Trial: -1}, 40},
		{0, false, journal.State{Seq: 8, Active: 0, Trial: -1}, 40},
	} {
		m, b := boot.NewMachine(f, c), boot.New()
		if n := b.Run(m, 1000); n != want.ticks || b.Slot != want.slot || b.Trial != want.trial {
			t.Errorf("boot %d: %d ticks, slot %d, trial %t", i, n, b.Slot, b.Trial)
		}
		runs(t, m, b, some(80-40*want.slot))
		if got, _ := journal.Read(f); got != want.state {
			t.Errorf("boot %d: %v, not %v", i, got, want.state)
		}
	}
}

// What another program has worked out: the registers, and what place 1's key
// makes of a text.
func TestKnownAnswers(t *testing.T) {
	s := signerOf(t, 3)
	payload := make([]byte, 100)
	for i := range payload {
		payload[i] = byte(i)
	}
	var key api.Digest
	for i := range key {
		key[i] = byte(0x80 + i)
	}
	f := flashOf(t, s.image(t, 7, 24, payload), nil)
	for _, x := range []struct {
		life int
		row  bool
		want string
	}{
		{api.Dev, false, "6e62ac7023dbc6236b0f78111c47e078acb82be6b337872f50a0addec307052e"},
		{api.Dev, true, "2adcbe6e3cc94bae0230a81529d4ae3efaa912e5d2fe8c08069ddb63b9a038dd"},
		{api.Prod, true, "adeb70ccf75059885ea5f6b05aa5ed600870a53eb88673d12f37ee31e5725a8d"},
	} {
		c := chipOf(t, s.pub, x.life, 5)
		if x.row {
			burn(t, c, 0, key, 0x00ff00ff)
		}
		m, b := machineOf(t, f, c), boot.New()
		b.Run(m, boot.Bound())
		runs(t, m, b, payload)
		all := m.Engine.Meas.All()
		if got := hex.EncodeToString(all[0][:]); got != "8cc291e68444bf681dd7f4653a5054bfdde7605815e5072ebd21dfd7f51a7afe" {
			t.Errorf("register 0: %s", got)
		}
		if got := hex.EncodeToString(all[1][:]); got != "a7b19e16ccd82d9ef66de1f5c32ed7aa0e8258d4bcfca18df55ef2189cee0bf3" {
			t.Errorf("register 1: %s", got)
		}
		d, e := m.Engine.Mac(1, []byte("text"))
		if got := hex.EncodeToString(d[:]); got != x.want || e != api.OK {
			t.Errorf("life %d, row %t: error %d, %s", x.life, x.row, e, got)
		}
		if m.Core.PC != 0x20000018 {
			t.Errorf("the core is at %x", m.Core.PC)
		}
	}
}

// Row 0 gives the key if it is valid and can be read, and no other row does.
func TestRows(t *testing.T) {
	s := signerOf(t, 3)
	f := flashOf(t, s.image(t, 7, 0, some(8)), nil)
	for _, life := range []int{api.Dev, api.Prod, api.RMA} {
		for _, marks := range []uint32{0, 0x00ff0000, 0x00ff00ff, 0x0000001f, 0x0000000f, 0x00ffff00, 0x00ffffff, 0x00ff0fff, 0x00ff1f00} {
			for row := range 4 {
				for _, sealed := range []bool{false, true} {
					c := chipOf(t, s.pub, life, 5)
					burn(t, c, row, digestOf(row), marks)
					m := machineOf(t, f, c)
					if sealed {
						m.Space.Chip.Seal()
					}
					b := follow(t, m, worldOf(t, m), nil)
					runs(t, m, b, some(8))
				}
			}
		}
	}
}

// Two chips whose rows have different keys have different keys in place 1; in
// RMA nothing is there.
func TestKeysOfChips(t *testing.T) {
	s := signerOf(t, 3)
	f := flashOf(t, s.image(t, 7, 0, some(8)), nil)
	seen := map[api.Digest]bool{}
	for _, life := range []int{api.Dev, api.Prod} {
		for n := range 4 {
			c := chipOf(t, s.pub, life, n) // the counter does not count
			if n < 3 {
				burn(t, c, 0, digestOf(n), 0xff00ff)
			}
			m := machineOf(t, f, c)
			boot.New().Run(m, 100)
			d, e := m.Engine.Mac(1)
			answered(t, e, api.OK)
			seen[d] = true
			answered(t, m.Engine.Lay(2, 1, api.Digest{}), api.ErrLock)
			answered(t, m.Engine.Lay(2, 3, api.Digest{}), api.OK)
			_, e = m.Space.Chip.Row(0)
			answered(t, e, api.ErrLock)
		}
	}
	if len(seen) != 8 {
		t.Errorf("%d keys", len(seen))
	}
	m := machineOf(t, f, chipOf(t, s.pub, api.RMA, 0))
	boot.New().Run(m, 100)
	_, e := m.Engine.Mac(1)
	answered(t, e, api.ErrNone)
	answered(t, m.Engine.Lay(0, 1, api.Digest{}), api.ErrLock)
}

// Keys that were there before stay, but in RMA; and of the registers and the
// pool nothing else is changed.
func TestEnginesWithContents(t *testing.T) {
	s := signerOf(t, 3)
	f := flashOf(t, s.image(t, 7, 0, some(8)), nil)
	for _, life := range []int{api.Dev, api.Prod, api.RMA} {
		m := machineOf(t, f, chipOf(t, s.pub, life, 0))
		w := worldOf(t, m)
		for h := 2; h < 8; h++ {
			key := digestOf(h)
			answered(t, m.Engine.Lay(h, 1+h%3, key), api.OK)
			w.keys[h] = kept{1 + h%3, key[:]}
		}
		for i := range 4 {
			m.Engine.Meas, _ = m.Engine.Meas.Extend(i, some(i))
			w.extend(i, some(i))
		}
		m.Engine.Stir(1, 2, 3)
		follow(t, m, w, nil)
		if want := (8 - 1) * min(3-life, 1); m.Engine.Count() != want {
			t.Errorf("life %d: %d keys", life, m.Engine.Count())
		}
		e := engine.New()
		e.Stir(1, 2, 3)
		if !bytes.Equal(m.Engine.Draw(32), e.Draw(32)) || m.Port.Time() != 0 {
			t.Error("the pool or the time has changed")
		}
	}
}

// In RMA no place keeps its key.
func TestFullEngines(t *testing.T) {
	s := signerOf(t, 3)
	f := flashOf(t, s.image(t, 7, 0, some(8)), nil)
	for h := range 8 {
		m := machineOf(t, f, chipOf(t, s.pub, api.RMA, 0))
		for i := range 8 - h {
			answered(t, m.Engine.Lay(i, 1+i%3, digestOf(i)), api.OK)
		}
		b := boot.New()
		b.Run(m, boot.Bound())
		runs(t, m, b, some(8))
		if m.Engine.Count() != 0 || m.Engine.Dead() || !m.Engine.Locked() {
			t.Errorf("%d of %d keys are left", m.Engine.Count(), 8-h)
		}
	}
}

// A machine that was booted once has no key of the chip for another boot.
func TestAMachineThatWasBooted(t *testing.T) {
	s := signerOf(t, 3)
	c := chipOf(t, s.pub, api.Dev, 0)
	burn(t, c, 0, digestOf(1), 0xff00ff)
	m := machineOf(t, flashOf(t, s.image(t, 7, 0, some(8)), nil), c)
	for i := range 2 {
		b := boot.New()
		b.Run(m, boot.Bound())
		runs(t, m, b, some(8))
		if m.Engine.Wipe(1) != 1-i || m.Engine.Count() != 0 {
			t.Errorf("boot %d: %d keys", i, m.Engine.Count())
		}
	}
}

// The core goes on as it was, but for its PC.
func TestTheCore(t *testing.T) {
	s := signerOf(t, 3)
	m := machineOf(t, flashOf(t, s.image(t, 7, 12, some(16)), nil), chipOf(t, s.pub, api.Dev, 0))
	c, _ := core.New(99).With(3, 4).With(31, 5).Set(0x305, 0x20000800)
	m.Core = c
	b := boot.New()
	for !b.Tick(m) {
		if !core.Same(m.Core, c) {
			t.Fatal("the core has changed")
		}
	}
	c.PC = 0x2000000c
	if !core.Same(m.Core, c) {
		t.Errorf("%v", m.Core)
	}
}

// What is handed off runs, and sees no key.
func TestFirmware(t *testing.T) {
	s := signerOf(t, 3)
	payload := rv.Code(
		rv.Inst{Op: rv.Ebreak},
		rv.Inst{Op: rv.Lui, Rd: 1, Imm: 0x20001000},
		rv.Inst{Op: rv.Addi, Rd: 2, Imm: 77},
		rv.Inst{Op: rv.Sw, A: 1, B: 2, Imm: 8},
		rv.Inst{Op: rv.Lui, Rd: 3, Imm: 0x60000000},
		rv.Inst{Op: rv.Lw, Rd: 4, A: 3, Imm: 0},
		rv.Inst{Op: rv.Lw, Rd: 5, A: 3, Imm: 27 * 4},
	)
	c := chipOf(t, s.pub, api.Dev, 0)
	burn(t, c, 0, digestOf(1), 0xff00ff)
	m, b := machineOf(t, flashOf(t, s.image(t, 7, 4, payload), nil), c), boot.New()
	b.Run(m, 100)
	runs(t, m, b, payload)
	after, n := m.Core.Run(m.Space, 100)
	cause, _ := after.Csr(0x342)
	at, _ := after.Csr(0x343)
	if n != 6 || cause != 5 || at != 0x6000006c || after.X[4] != 0xff000000 || after.X[5] != 0 || m.Space.RAM[4096+8] != 77 {
		t.Errorf("%d steps, cause %d at %x, %x", n, cause, at, after.X[:6])
	}
}

// What is read in the first tick counts, also if the fuses are other ones then.
func TestTheFusesAreReadOnce(t *testing.T) {
	s := signerOf(t, 3)
	f := flashOf(t, s.image(t, 3, 0, some(8)), s.image(t, 5, 0, some(12)))
	for _, life := range []int{api.Dev, api.Prod, api.RMA} {
		for tick := 2; tick <= 38; tick++ {
			m := machineOf(t, f, chipOf(t, s.pub, life, 3))
			w := worldOf(t, m)
			b := follow(t, m, w, func(next int) {
				if next == tick {
					for _, o := range []otp.Write{{Word: 0, Value: 0xffffffff}, {Word: 1, Value: 0xffff}, {Word: 9, Value: 0xffffffff}} {
						answered(t, m.Space.Chip.Do(o), api.OK)
						w.words[o.Word] = o.Value
					}
				}
			})
			runs(t, m, b, some(8))
		}
	}
}

// Row 0 is read in the last tick.
func TestTheRowIsReadLast(t *testing.T) {
	s := signerOf(t, 3)
	m := machineOf(t, flashOf(t, s.image(t, 3, 0, some(8)), nil), chipOf(t, s.pub, api.Dev, 3))
	w := worldOf(t, m)
	follow(t, m, w, func(next int) {
		if next == 39 {
			burn(t, m.Space.Chip, 0, digestOf(7), 0xff00ff)
			w.words = m.Space.Chip.Words()
		}
	})
	if w.ticks != 39 {
		t.Errorf("%d ticks", w.ticks)
	}
}

// In a flash without a journal, or with one that ends, a valid slot runs all
// the same.
func TestJournalsThatCannotBeWritten(t *testing.T) {
	s := signerOf(t, 3)
	for _, pages := range []int{16, 17, 31, 32, 33, 34} {
		for slot := range 2 {
			f := blankOf(t, pages)
			if f.Write(slotSize*slot, s.image(t, 3, 0, some(72))) != api.OK {
				continue
			}
			m := machineOf(t, f, chipOf(t, s.pub, api.Prod, 3))
			if slot == 1 && pages < 32 {
				halts(t, m, follow(t, m, worldOf(t, m), nil), api.ErrNone)
				continue
			}
			runs(t, m, follow(t, m, worldOf(t, m), nil), some(72))
		}
	}
	// There is no state after the last one: the ticks of phase 4 write nothing.
	f := withState(t, flashOf(t, s.image(t, 3, 0, some(72)), s.image(t, 3, 0, some(4))), journal.State{Seq: math.MaxUint32, Trial: 1, Tries: 2})
	m := machineOf(t, f, chipOf(t, s.pub, api.Prod, 3))
	w := worldOf(t, m)
	runs(t, m, follow(t, m, w, nil), some(4))
	if w.ticks != 41 || !bytes.Equal(memOf(t, f), memOf(t, m.Space.Flash)) {
		t.Errorf("%d ticks", w.ticks)
	}
	m, b := machineOf(t, f, chipOf(t, s.pub, api.Prod, 3)), boot.New()
	b.Run(m, 36)
	if o, ok := b.Pending(); b.Phase != 4 || ok || !sameOp(o, journal.Op{}) {
		t.Errorf("phase %d: %v is pending", b.Phase, o)
	}
}

// The life ends it in the first tick, and a flash without a valid slot in the
// one of phase 3.
func TestHalts(t *testing.T) {
	s := signerOf(t, 3)
	good := s.image(t, 3, 0, some(8))
	for _, x := range []struct {
		f     *flash.Flash
		life  int
		ticks int
		want  api.Errno
	}{
		{flashOf(t, good, good), api.Raw, 1, api.ErrState},
		{flashOf(t, good, good), api.Scrap, 1, api.ErrDead},
		{flashOf(t, nil, nil), api.Raw, 1, api.ErrState},
		{flashOf(t, nil, nil), api.Scrap, 1, api.ErrDead},
		{flashOf(t, nil, nil), api.Dev, 36, api.ErrNone},
		{flashOf(t, good[:500], good[8:]), api.Prod, 36, api.ErrNone},
		{blankOf(t, 0), api.RMA, 36, api.ErrNone},
		{withState(t, flashOf(t, nil, nil), journal.State{Seq: 7, Trial: 1}), api.RMA, 36, api.ErrNone},
	} {
		m, b := machineOf(t, x.f, chipOf(t, s.pub, x.life, 0)), boot.New()
		if n := b.Run(m, 1000); n != x.ticks {
			t.Errorf("%d ticks, not %d", n, x.ticks)
		}
		halts(t, m, b, x.want)
		if b.Slot != -1 || b.Trial || b.Man != (manifest.Manifest{}) {
			t.Errorf("%v", b)
		}
		if !bytes.Equal(memOf(t, m.Space.Flash), memOf(t, x.f)) {
			t.Error("the flash is changed")
		}
	}
}
