package boot

import (
	"curtilage/api"
	"curtilage/choose"
	"curtilage/engine"
	"curtilage/flash"
	"curtilage/grant"
	"curtilage/journal"
	"curtilage/manifest"
	"curtilage/otp"
	"curtilage/sha"
)

// slots is how many slots there are, and slotSize how many bytes each has.
const (
	slots    = 2
	slotSize = api.SlotPages * api.Page
)

// lengthSize is how many bytes an image's length of the signature has.
const lengthSize = 2

// The places of the keys, and the kind of those of the chip.
const (
	deviceKey = 0
	bootKey   = 1
	ofChip    = 1
)

// bootRow is the row whose key the boot derives from, and bootLabel what it
// derives under.
const (
	bootRow   = 0
	bootLabel = "CDI"
)

// The registers that the boot extends.
const (
	bodyRegister   = 0
	digestRegister = 1
	lifeRegister   = 2
)

// handedOff is the stage after the boot.
const handedOff = 1

// fused is what was read from the fuses.
type fused struct {
	life  int
	least int
	pub   []byte
}

// image is what a slot contains, and where in the flash its payload begins; or
// why the slot is not valid.
type image struct {
	e       api.Errno
	man     manifest.Manifest
	payload int
}

// act does what the next tick does.
func (b *Boot) act(m *Machine) {
	f, c := m.Space.Flash, m.Space.Chip
	switch b.Phase {
	case phaseFuses:
		b.readFuses(c)
	case phaseLook0, phaseLook1:
		if b.done == lookTicks-1 {
			slot := b.Phase - phaseLook0
			b.found[slot] = find(f, b.fused, slot)
		}
	case phaseChoose:
		b.choose(f)
	case phaseWrite:
		b.write(f, c)
	case phaseCopy:
		b.copyPortion(m.Space)
	case phaseCheck:
		b.check(m.Space)
	case phaseLock:
		b.lock(m)
	}
}

// readFuses reads what the boot hangs on, and halts in a life in which no slot
// is selected, whatever it contains.
func (b *Boot) readFuses(c *otp.Chip) {
	b.fused = fused{life: c.Life(), least: c.Counter(), pub: c.Key()}
	if e := choose.Select(b.fused.life, journal.First(), [slots]api.Errno{}).E; e != api.OK {
		b.halt(e)
	}
}

// find returns what a slot contains.
func find(f *flash.Flash, by fused, slot int) image {
	v := choose.Look(f, by.pub, by.least, slot)
	if v.E != api.OK {
		return image{e: v.E}
	}
	begin := slot * slotSize
	p, _ := f.Read(begin, slotSize) // Look has read it, too
	body, _ := v.Man.Body()
	_, sig, _, _ := manifest.Read(p)
	return image{man: v.Man, payload: begin + len(body) + lengthSize + len(sig)}
}

// choose selects the slot, and what must be written before it is booted.
func (b *Boot) choose(f *flash.Flash) {
	s, _ := journal.Read(f)
	pick := choose.Select(b.fused.life, s, [slots]api.Errno{b.found[0].e, b.found[1].e})
	if pick.E != api.OK {
		b.halt(pick.E)
		return
	}
	b.Slot, b.Trial, b.chosen = pick.Slot, pick.Trial, b.found[pick.Slot]
	b.Man = b.chosen.man
	b.change = pick.Change
	if pick.Change {
		b.writes = journal.Next(f, pick.State)
	}
}

// write executes the next operation. Its error is ignored: a journal that
// cannot be written must not keep a valid slot from running.
func (b *Boot) write(f *flash.Flash, c *otp.Chip) {
	if o, ok := b.Pending(); ok {
		journal.Do(f, c, o)
	}
}

// copyPortion copies the next bytes of the payload into Code. What follows the
// payload there is zero.
func (b *Boot) copyPortion(s *engine.Space) {
	if b.done == 0 {
		clear(s.RAM[:api.Exec])
	}
	at := b.done * portion
	p, _ := s.Flash.Read(b.chosen.payload+at, min(portion, b.chosen.man.Size-at))
	copy(s.RAM[at:], p)
}

// check halts if it was not the payload that was copied: the flash may have
// changed since it was looked at.
func (b *Boot) check(s *engine.Space) {
	if sha.Sum(s.RAM[:b.chosen.man.Size]) != b.chosen.man.Digest {
		b.halt(api.ErrDigest)
	}
}

// lock measures what will run, gives it its key, and closes what is only for
// the boot.
func (b *Boot) lock(m *Machine) {
	life := []byte{byte(b.fused.life)}
	measure(m.Engine, b.chosen.man, life)
	if b.fused.life == api.RMA {
		empty(m.Engine)
	} else {
		derive(m.Engine, m.Space.Chip, life)
	}
	m.Engine.Lock()
	m.Space.Chip.Seal()
	m.Space.Stage = handedOff
	code, _ := grant.Base(grant.Code)
	m.Core.PC = code + uint32(b.chosen.man.Entry)
}

// measure extends the registers by what will run.
func measure(e *engine.Engine, man manifest.Manifest, life []byte) {
	body, _ := man.Body() // there is one: it was signed
	e.Meas, _ = e.Meas.Extend(bodyRegister, body)
	e.Meas, _ = e.Meas.Extend(digestRegister, man.Digest[:])
	e.Meas, _ = e.Meas.Extend(lifeRegister, life)
}

// derive makes the key of what will run from that of the chip, which is gone
// then.
func derive(e *engine.Engine, c *otp.Chip, life []byte) {
	key, _ := c.Row(bootRow) // zero bytes beside an error
	e.Lay(deviceKey, ofChip, key)
	d := e.Meas.Digest()
	e.Derive(deviceKey, bootKey, bootLabel, d[:], life)
	e.Wipe(deviceKey)
}

// empty wipes all places.
func empty(e *engine.Engine) {
	for h := range api.Handles {
		e.Wipe(h)
	}
}
