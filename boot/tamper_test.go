package boot_test

import (
	"bytes"
	"math/rand"
	"testing"

	"curtilage/api"
	"curtilage/boot"
	"curtilage/flash"
	"curtilage/journal"
	"curtilage/otp"
)

// signed are payloads that are signed, each with its image.
type signed struct {
	payloads, images [][]byte
	versions         []int
}

// handed holds what P25.2 promises: if a boot has handed off, one of the
// payloads that are not too old is in Code, and nothing else.
func (l signed) handed(t *testing.T, m *boot.Machine, b *boot.Boot, least int) {
	t.Helper()
	if b.Phase != 8 {
		if b.Phase != 9 || b.E == api.OK || m.Space.Stage != 0 {
			t.Fatalf("phase %d, error %d, stage %d", b.Phase, b.E, m.Space.Stage)
		}
		return
	}
	for i, p := range l.payloads {
		code := append(bytes.Clone(p), make([]byte, 4096-len(p))...)
		if l.versions[i] >= least && bytes.Equal(m.Space.RAM[:4096], code) && b.Man.Version == l.versions[i] && b.Man.Size == len(p) {
			return
		}
	}
	t.Fatal("something else is in Code")
}

// twoSlots returns what boots slot 1 as a trial, and the images.
func twoSlots(t *testing.T) (*flash.Flash, *otp.Chip, signed) {
	t.Helper()
	s := signerOf(t, 3)
	l := signed{payloads: [][]byte{some(200), some(140), some(64)}, versions: []int{4, 5, 2}}
	for i, p := range l.payloads {
		l.images = append(l.images, s.image(t, l.versions[i], 4*i, p))
	}
	f := withState(t, flashOf(t, l.images[0], l.images[1]), journal.State{Seq: 4, Active: 0, Trial: 1})
	return f, chipOf(t, s.pub, api.Prod, 3), l
}

// places returns some bytes of the flash that a boot hangs on.
func places(l signed) []int {
	var at []int
	for slot := range 2 {
		begin, end := slotSize*slot, slotSize*slot+len(l.images[slot])
		size := len(l.payloads[slot])
		for _, i := range []int{0, 7, 10, 11, 15, 20, 47, 48, 49, 50, 57, 100, 2000} {
			at = append(at, begin+i)
		}
		for i := 0; i < size; i += 21 {
			at = append(at, end-size+i)
		}
		at = append(at, end-size-1, end-1, end, begin+slotSize-1)
	}
	for _, i := range []int{0, 5, 9, 31, 32, 255} {
		at = append(at, 32*page+i, 33*page+i)
	}
	return at
}

// turn turns bits of a byte of a machine's flash and of the world's.
func turn(t *testing.T, m *boot.Machine, w *world, at int, by byte) {
	t.Helper()
	answered(t, m.Space.Flash.Turn(at, by), api.OK)
	answered(t, w.f.Turn(at, by), api.OK)
}

// A byte that changes before any tick, for good or for this tick only.
func TestTamperedBytes(t *testing.T) {
	f, c, l := twoSlots(t)
	ends := map[api.Errno]int{}
	for _, at := range places(l) {
		for _, tick := range []int{1, 2, 17, 18, 19, 34, 35, 36, 37, 38, 39, 40, 41, 42, 43} {
			for _, back := range []bool{false, true} {
				m, b := machineOf(t, f, c), boot.New()
				w := worldOf(t, m)
				for w.phase < 8 {
					if w.ticks+1 == tick || back && w.ticks == tick {
						turn(t, m, w, at, 0x10)
					}
					w.step()
					b.Tick(m)
				}
				same(t, b, m, w)
				l.handed(t, m, b, 3)
				ends[b.E]++
			}
		}
	}
	if ends[api.OK] < 1000 || ends[api.ErrDigest] < 20 || len(ends) != 2 {
		t.Errorf("%v", ends)
	}
}

// A byte of the payload counts as it is in the tick in which it is copied.
func TestTamperedPayloads(t *testing.T) {
	f, c, l := twoSlots(t)
	begin := slotSize + len(l.images[1]) - 140
	for i := range 140 {
		for tick := 36; tick <= 43; tick++ {
			m, b := machineOf(t, f, c), boot.New()
			b.Run(m, tick-1)
			answered(t, m.Space.Flash.Turn(begin+i, 1), api.OK)
			b.Run(m, 100)
			if tick <= 39+i/64 {
				halts(t, m, b, api.ErrDigest)
				if b.Slot != 1 || !b.Trial || b.Man.Version != 5 {
					t.Errorf("%v", b)
				}
			} else {
				runs(t, m, b, l.payloads[1])
			}
		}
	}
}

// Slots that are swapped for others behind the boot's back, in any tick.
func TestSwappedSlots(t *testing.T) {
	f, c, l := twoSlots(t)
	ends := map[api.Errno]int{}
	for _, image := range append(l.images, nil, some(4096)) {
		for slot := range 2 {
			for tick := 1; tick <= 44; tick++ {
				m, b := machineOf(t, f, c), boot.New()
				w := worldOf(t, m)
				for w.phase < 8 {
					if w.ticks+1 == tick {
						for i := range 16 {
							answered(t, m.Space.Flash.Erase(16*slot+i), api.OK)
						}
						answered(t, m.Space.Flash.Write(slotSize*slot, image), api.OK)
						w.f = m.Space.Flash.Copy()
					}
					w.step()
					b.Tick(m)
				}
				same(t, b, m, w)
				l.handed(t, m, b, 3)
				ends[b.E]++
			}
		}
	}
	if ends[api.OK] < 100 || ends[api.ErrDigest] < 10 || len(ends) != 2 {
		t.Errorf("%v", ends)
	}
}

// Many bytes, in many ticks, some of which are turned back.
func TestMuchTampering(t *testing.T) {
	f, c, l := twoSlots(t)
	r := rand.New(rand.NewSource(25))
	at := places(l)
	ends := map[api.Errno]int{}
	for range 600 {
		m := machineOf(t, f, c)
		w := worldOf(t, m)
		b := boot.New()
		turned := map[int]byte{}
		most := 1 + r.Intn(20)
		for w.phase < 8 {
			for i, by := range turned {
				if r.Intn(3) == 0 {
					turn(t, m, w, i, by)
					delete(turned, i)
				}
			}
			if r.Intn(40) < most {
				i, bit := at[r.Intn(len(at))], byte(1)<<r.Intn(8)
				turned[i] ^= bit
				turn(t, m, w, i, bit)
			}
			if got := b.Tick(m); got != w.step() {
				t.Fatalf("tick %d: %t", w.ticks, got)
			}
		}
		same(t, b, m, w)
		l.handed(t, m, b, 3)
		ends[b.E]++
	}
	if ends[api.OK] < 20 || ends[api.ErrDigest] < 20 || ends[api.ErrNone] < 20 || len(ends) != 3 {
		t.Errorf("%v", ends)
	}
}

// A journal that changes while it is written must not keep a slot from running.
func TestTamperedJournals(t *testing.T) {
	f, c, l := twoSlots(t)
	m, b := machineOf(t, f, c), boot.New()
	w := worldOf(t, m)
	for w.phase < 8 {
		if w.ticks == 37 { // between the erasure and the record
			turn(t, m, w, 32*page+3, 0xff)
		}
		w.step()
		b.Tick(m)
		same(t, b, m, w)
	}
	runs(t, m, b, l.payloads[1])
	if s, at := journal.Read(m.Space.Flash); s.Tries != 0 || at != 33 {
		t.Errorf("%v on page %d", s, at)
	}
}
