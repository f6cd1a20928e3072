package boot_test

import (
	"bytes"
	"math"
	"testing"

	"curtilage/api"
	"curtilage/boot"
	"curtilage/engine"
	"curtilage/flash"
	"curtilage/journal"
	"curtilage/otp"
)

// changing returns what boots in 43 ticks, of which two write.
func changing(t *testing.T) (*flash.Flash, *otp.Chip, []byte) {
	t.Helper()
	s := signerOf(t, 3)
	f := withState(t, flashOf(t, s.image(t, 2, 0, some(80)), s.image(t, 3, 4, some(140))), journal.State{Seq: 4, Active: 0, Trial: 1})
	return f, chipOf(t, s.pub, api.Prod, 2), some(140)
}

// In how many ticks one gets there makes no difference.
func TestRun(t *testing.T) {
	f, c, payload := changing(t)
	for _, part := range []int{1, 2, 3, 5, 7, 16, 17, 18, 34, 35, 36, 37, 42, 43, 44, 72, 1000, math.MaxInt32, math.MaxInt} {
		m, b := machineOf(t, f, c), boot.New()
		w := worldOf(t, m)
		for w.phase < 8 {
			n := 0
			for n < part && w.phase < 8 {
				w.step()
				n++
			}
			if got := b.Run(m, part); got != n {
				t.Fatalf("%d ticks, not %d", got, n)
			}
			same(t, b, m, w)
		}
		runs(t, m, b, payload)
		if w.ticks != 43 {
			t.Errorf("%d ticks", w.ticks)
		}
		for _, n := range []int{1, 100, part} {
			if got := b.Run(m, n); got != 0 {
				t.Errorf("%d ticks after the last one", got)
			}
			same(t, b, m, w)
		}
	}
	for _, most := range []int{0, -1, -36, math.MinInt32, math.MinInt} {
		m, b := machineOf(t, f, c), boot.New()
		w := worldOf(t, m)
		for w.phase < 8 {
			if got := b.Run(m, most); got != 0 {
				t.Fatalf("%d ticks", got)
			}
			same(t, b, m, w)
			b.Tick(m)
			w.step()
		}
	}
}

// The power may fail in each tick, and before the first and after the last one.
func TestSkip(t *testing.T) {
	f, c, _ := changing(t)
	for n := range 46 {
		m, b := machineOf(t, f, c), boot.New()
		w := worldOf(t, m)
		for range n {
			b.Tick(m)
			w.step()
		}
		b.Skip(m)
		w.phase, w.e = 9, api.ErrOff
		for range 2 {
			same(t, b, m, w)
			if b.Tick(m) || b.Run(m, 100) != 0 {
				t.Fatal("there are more ticks")
			}
			b.Skip(m)
		}
	}
	// Also once it has halted.
	m, b := machineOf(t, f, otp.New()), boot.New()
	b.Tick(m)
	halts(t, m, b, api.ErrState)
	b.Skip(m)
	halts(t, m, b, api.ErrOff)
}

func TestPending(t *testing.T) {
	f, c, _ := changing(t)
	m, b := machineOf(t, f, c), boot.New()
	state := journal.State{Seq: 5, Active: 0, Trial: 1, Tries: 1}
	want := map[int]journal.Op{
		36: {Kind: 1, Page: 32},
		37: {Kind: 2, Page: 32, Bytes: recordOf(state)},
	}
	for n := range 45 {
		for range 2 {
			o, ok := b.Pending()
			if _, pending := want[n]; ok != pending || !sameOp(o, want[n]) {
				t.Fatalf("after %d ticks: %v", n, o)
			}
			clear(o.Bytes[:cap(o.Bytes)]) // they are nobody else's
		}
		b.Tick(m)
	}
	if got, at := journal.Read(m.Space.Flash); got != state || at != 32 {
		t.Errorf("%v on page %d", got, at)
	}
}

// The operations can be torn: the next boot tries as often or more.
func TestTornWrites(t *testing.T) {
	f, c, payload := changing(t)
	for n := 36; n < 38; n++ {
		for _, mask := range [][]byte{nil, {0xff}, bytes.Repeat([]byte{0xff}, 31), bytes.Repeat([]byte{0xff}, 32), bytes.Repeat([]byte{0x55}, 256)} {
			m, b := machineOf(t, f, c), boot.New()
			b.Run(m, n)
			o, ok := b.Pending()
			if !ok {
				t.Fatal("nothing is pending")
			}
			answered(t, journal.Tear(m.Space.Flash, m.Space.Chip, o, mask), api.OK)
			b.Skip(m)
			halts(t, m, b, api.ErrOff)
			tries := 1
			if n == 37 && len(mask) == 32 {
				tries = 2
			}
			m, b = boot.NewMachine(m.Space.Flash, m.Space.Chip), boot.New()
			b.Run(m, 43)
			runs(t, m, b, payload)
			if s, _ := journal.Read(m.Space.Flash); s.Tries != tries || s.Trial != 1 {
				t.Errorf("%v, not %d tries", s, tries)
			}
		}
	}
}

func TestNothing(t *testing.T) {
	f, c, _ := changing(t)
	var none *boot.Boot
	m := machineOf(t, f, c)
	w := worldOf(t, m)
	for _, m := range []*boot.Machine{nil, m} {
		if none.Tick(m) || none.Run(m, 100) != 0 {
			t.Error("nothing has ticks")
		}
		none.Skip(m)
	}
	if o, ok := none.Pending(); ok || !sameOp(o, journal.Op{}) {
		t.Errorf("%v is pending", o)
	}
	same(t, boot.New(), m, w)
	if boot.NewMachine(nil, nil) != nil || boot.NewMachine(f, nil) != nil || boot.NewMachine(nil, c) != nil {
		t.Error("a machine is made of nothing")
	}
	b := boot.New()
	for w.phase < 8 {
		for _, m := range []*boot.Machine{nil, boot.NewMachine(nil, nil), {}, {Space: m.Space}, {Engine: engine.New()}} {
			if b.Tick(m) || b.Run(m, 100) != 0 {
				t.Fatal("a boot of nothing ends")
			}
		}
		b.Skip(nil)
		same(t, b, m, w)
		b.Tick(m)
		w.step()
	}
	same(t, b, m, w)
}

// A machine without a flash or a chip boots nothing.
func TestMachinesThatLackParts(t *testing.T) {
	f, c, _ := changing(t)
	m, b := machineOf(t, f, c), boot.New()
	m.Space.Flash = nil
	if n := b.Run(m, 1000); n != 36 {
		t.Errorf("%d ticks", n)
	}
	halts(t, m, b, api.ErrNone)
	m, b = machineOf(t, f, c), boot.New()
	m.Space.Chip = nil
	if n := b.Run(m, 1000); n != 1 {
		t.Errorf("%d ticks", n)
	}
	halts(t, m, b, api.ErrState)
	for n := range 43 {
		m, b := machineOf(t, f, c), boot.New()
		b.Run(m, n)
		m.Space.Flash, m.Space.Chip, m.Port = nil, nil, nil
		b.Run(m, 1000)
	}
}

// Whatever is done to the fields, each boot ends.
func TestFieldsOfAnyNumber(t *testing.T) {
	f, c, _ := changing(t)
	for n := range 44 {
		for _, phase := range []int{math.MinInt, -2, -1, 0, 1, 2, 3, 4, 5, 6, 7, 8, 9, 10, 11, math.MaxInt} {
			m, b := machineOf(t, f, c), boot.New()
			b.Run(m, n)
			b.Phase, b.Slot, b.Trial, b.E = phase, phase, true, -5
			b.Man.Size, b.Man.Entry = math.MaxInt-n, -n
			if got := b.Run(m, math.MaxInt); got > boot.Bound() {
				t.Fatalf("%d ticks", got)
			}
			b.Pending()
			b.Skip(m)
		}
	}
}
