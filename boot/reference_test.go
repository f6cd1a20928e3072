package boot_test

import (
	"bytes"
	"crypto/hmac"
	"crypto/sha256"
	"encoding/binary"
	"slices"
	"testing"

	"curtilage/api"
	"curtilage/boot"
	"curtilage/choose"
	"curtilage/core"
	"curtilage/engine"
	"curtilage/flash"
	"curtilage/journal"
	"curtilage/manifest"
	"curtilage/otp"
)

// The boot once more, by the numbers of its ticks, with the library's hash:
// what ours is held against after each tick.

// The ticks whose effects the document names, counted from 1 on.
const (
	fusesTick  = 1
	look0Tick  = 18
	look1Tick  = 35
	chooseTick = 36
)

// world is a machine and a boot in it.
type world struct {
	f      *flash.Flash
	words  []uint32
	sealed bool // also before the boot
	ram    [8192]byte
	stage  int
	pc     uint32
	regs   [4]api.Digest
	keys   map[int]kept
	locked bool

	ticks int
	phase int
	slot  int
	man   manifest.Manifest
	trial bool
	e     api.Errno

	life    int
	least   int
	pub     []byte
	views   [2]view
	payload int // where it begins in the flash
	plan    []journal.Op
	writes  int // how many ticks they have
}

// kept is a key in a place, and its kind.
type kept struct {
	kind int
	key  []byte
}

// view is what was seen of a slot.
type view struct {
	e       api.Errno
	man     manifest.Manifest
	payload int
}

// worldOf returns what a machine has before its boot.
func worldOf(t *testing.T, m *boot.Machine) *world {
	t.Helper()
	return &world{
		f: m.Space.Flash.Copy(), words: m.Space.Chip.Words(), sealed: m.Space.Chip.Locked(27),
		ram: m.Space.RAM, keys: map[int]kept{}, slot: -1,
	}
}

// chip returns a chip with the world's words.
func (w *world) chip() *otp.Chip {
	c, e := otp.Of(w.words)
	if e != api.OK {
		panic("no chip")
	}
	if w.sealed {
		c.Seal()
	}
	return c
}

// copies returns how many ticks the payload takes.
func (w *world) copies() int {
	n := 0
	for 64*n < w.man.Size {
		n++
	}
	return n
}

// step executes a tick, and tells whether the boot ends with it.
func (w *world) step() bool {
	if w.phase >= 8 {
		return false
	}
	w.ticks++
	afterWrite := chooseTick + w.writes
	afterCopy := afterWrite + w.copies()
	switch {
	case w.ticks == fusesTick:
		w.fuse()
	case w.ticks == look0Tick:
		w.views[0] = w.view(0)
	case w.ticks == look1Tick:
		w.views[1] = w.view(1)
	case w.ticks == chooseTick:
		w.choose()
	case w.ticks < chooseTick:
	case w.ticks <= afterWrite:
		if o, ok := w.pending(); ok {
			journal.Do(w.f, nil, o)
			w.plan = w.plan[1:]
		}
	case w.ticks <= afterCopy:
		w.copyAt(64 * (w.ticks - afterWrite - 1))
	case w.ticks == afterCopy+1:
		if sha256.Sum256(w.ram[:w.man.Size]) != w.man.Digest {
			w.phase, w.e = 9, 16
		}
	default:
		w.lock()
	}
	if w.phase < 8 {
		w.phase = w.phaseOf(w.ticks + 1)
	}
	return w.phase >= 8
}

// phaseOf returns the phase that a tick is in.
func (w *world) phaseOf(tick int) int {
	afterWrite := chooseTick + w.writes
	afterCopy := afterWrite + w.copies()
	for _, x := range [][2]int{{1, 0}, {18, 1}, {35, 2}, {36, 3}, {afterWrite, 4}, {afterCopy, 5}, {afterCopy + 1, 6}, {afterCopy + 2, 7}} {
		if tick <= x[0] {
			return x[1]
		}
	}
	return 8
}

// fuse is the first tick.
func (w *world) fuse() {
	c := w.chip()
	w.life, w.least, w.pub = c.Life(), c.Counter(), c.Key()
	switch w.life {
	case 0:
		w.phase, w.e = 9, 14
	case 4:
		w.phase, w.e = 9, 17
	}
}

// view returns what is to be seen of a slot.
func (w *world) view(slot int) view {
	mem, e := w.f.Read(4096*slot, 4096)
	if e != api.OK {
		return view{e: 1}
	}
	m, _, e := manifest.Check(w.pub, w.least, mem)
	if e != api.OK {
		return view{e: e}
	}
	return view{man: m, payload: 4096*slot + 50 + int(binary.BigEndian.Uint16(mem[48:]))}
}

// choose is the tick of phase 3.
func (w *world) choose() {
	s, _ := journal.Read(w.f)
	c := choose.Select(w.life, s, [2]api.Errno{w.views[0].e, w.views[1].e})
	if c.Slot < 0 {
		w.phase, w.e = 9, 3
		return
	}
	w.slot, w.trial, w.man, w.payload = c.Slot, c.Trial, w.views[c.Slot].man, w.views[c.Slot].payload
	if c.Change {
		w.writes = 2
		w.plan = journal.Next(w.f, c.State)
	}
}

// pending returns the operation of the next tick.
func (w *world) pending() (journal.Op, bool) {
	if w.ticks < chooseTick || w.phase >= 8 || len(w.plan) == 0 {
		return journal.Op{}, false
	}
	return w.plan[0], true
}

// copyAt copies what is in the payload from some byte on.
func (w *world) copyAt(at int) {
	if at == 0 {
		for i := range 4096 {
			w.ram[i] = 0
		}
	}
	for i := at; i < at+64 && i < w.man.Size; i++ {
		p, e := w.f.Read(w.payload+i, 1)
		if e != api.OK {
			panic("no payload")
		}
		w.ram[i] = p[0]
	}
}

// lock is the last tick.
func (w *world) lock() {
	w.extend(0, bodyOf(w.man))
	w.extend(1, w.man.Digest[:])
	w.extend(2, []byte{byte(w.life)})
	if w.life == 3 {
		w.keys = map[int]kept{}
	} else {
		key, e := w.chip().Row(0)
		if e != api.OK {
			key = api.Digest{}
		}
		w.keys[1] = kept{2, bootKey(key[:], w.regs, w.life)}
	}
	w.locked, w.sealed, w.stage = true, true, 1
	w.pc = 0x20000000 + uint32(w.man.Entry)
	w.phase = 8
}

func (w *world) extend(i int, p []byte) {
	sum := sha256.Sum256(p)
	w.regs[i] = sha256.Sum256(append(w.regs[i][:], sum[:]...))
}

// bodyOf returns the body of a manifest, valid or not.
func bodyOf(m manifest.Manifest) []byte {
	body := []byte("CURT")
	for _, v := range []int{m.Version, m.Size, m.Entry} {
		body = binary.BigEndian.AppendUint32(body, uint32(v))
	}
	return append(body, m.Digest[:]...)
}

// macOf is the library's MAC.
func macOf(key []byte, p []byte) []byte {
	h := hmac.New(sha256.New, key)
	h.Write(p)
	return h.Sum(nil)
}

// bootKey is the key that a boot leaves in place 1.
func bootKey(key []byte, regs [4]api.Digest, life int) []byte {
	sum := sha256.Sum256(slices.Concat(regs[0][:], regs[1][:], regs[2][:], regs[3][:]))
	p := []byte("\x00\x00\x00\x03CDI\x00\x00\x00\x02\x00\x00\x00\x20")
	p = append(p, sum[:]...)
	return macOf(key, append(p, 0, 0, 0, 1, byte(life)))
}

// same holds that a boot and its machine are what they should be.
func same(t *testing.T, b *boot.Boot, m *boot.Machine, w *world) {
	t.Helper()
	if b.Phase != w.phase || b.Slot != w.slot || b.Man != w.man || b.Trial != w.trial || b.E != w.e {
		t.Fatalf("tick %d: phase %d, slot %d, trial %t, error %d, %v, not phase %d, slot %d, trial %t, error %d, %v",
			w.ticks, b.Phase, b.Slot, b.Trial, b.E, b.Man, w.phase, w.slot, w.trial, w.e, w.man)
	}
	if m.Space.RAM != w.ram || m.Space.Stage != w.stage || m.Space.Port != [64]byte{} {
		t.Fatalf("tick %d: the memory or the stage differs", w.ticks)
	}
	if !core.Same(m.Core, core.New(w.pc)) {
		t.Fatalf("tick %d: the core is at %x, not %x", w.ticks, m.Core.PC, w.pc)
	}
	got, ok := b.Pending()
	want, pending := w.pending()
	if ok != pending || !sameOp(got, want) {
		t.Fatalf("tick %d: %v is pending, not %v", w.ticks, got, want)
	}
	if !bytes.Equal(memOf(t, m.Space.Flash), memOf(t, w.f)) {
		t.Fatalf("tick %d: the flash differs", w.ticks)
	}
	sameEngine(t, m.Engine, w)
	sameChip(t, m.Space.Chip, w)
}

func sameOp(a, b journal.Op) bool {
	return a.Kind == b.Kind && a.Page == b.Page && a.At == b.At && bytes.Equal(a.Bytes, b.Bytes) && a.Word == b.Word && a.Value == b.Value
}

func sameEngine(t *testing.T, e *engine.Engine, w *world) {
	t.Helper()
	if e.Meas.All() != w.regs || e.Locked() != w.locked || e.Dead() || e.Keyed() != 0 {
		t.Fatalf("tick %d: the registers are %x, not %x, locked: %t", w.ticks, e.Meas.All(), w.regs, e.Locked())
	}
	for h := range api.Handles {
		if got := e.Kind(h); got != w.keys[h].kind {
			t.Fatalf("tick %d: kind %d in place %d", w.ticks, got, h)
		}
		if w.keys[h].kind == 0 {
			continue
		}
		d, err := e.Mac(h, []byte("text"))
		if err != api.OK || !bytes.Equal(d[:], macOf(w.keys[h].key, []byte("text"))) {
			t.Fatalf("tick %d: error %d, or another key in place %d", w.ticks, err, h)
		}
	}
}

func sameChip(t *testing.T, c *otp.Chip, w *world) {
	t.Helper()
	if !slices.Equal(c.Words(), w.words) {
		t.Fatalf("tick %d: the fuses differ", w.ticks)
	}
	for i := range 64 {
		if c.Locked(i) != (w.sealed && i >= 27 && i < 63) {
			t.Fatalf("tick %d: word %d is locked: %t", w.ticks, i, c.Locked(i))
		}
	}
}

// follow boots a machine to the end, tick by tick, and holds what becomes of
// it. Before each tick, tamper may change the machine and the world.
func follow(t *testing.T, m *boot.Machine, w *world, tamper func(tick int)) *boot.Boot {
	t.Helper()
	b := boot.New()
	same(t, b, m, w)
	for w.phase < 8 {
		if tamper != nil {
			tamper(w.ticks + 1)
		}
		want := w.step()
		if got := b.Tick(m); got != want {
			t.Fatalf("tick %d: %t", w.ticks, got)
		}
		same(t, b, m, w)
	}
	if b.Tick(m) {
		t.Error("a boot that has ended ends once more")
	}
	same(t, b, m, w)
	return b
}
