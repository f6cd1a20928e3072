package boot_test

import (
	"bytes"
	"math/rand"
	"testing"

	"curtilage/api"
	"curtilage/boot"
	"curtilage/choose"
	"curtilage/flash"
	"curtilage/journal"
	"curtilage/otp"
	"curtilage/update"
)

// life is a chip over many boots and updates, in any tick of which the power
// may fail.
type life struct {
	f         *flash.Flash
	c         *otp.Chip
	r         *rand.Rand
	signed    signed
	confirmed int // which image is the one that was confirmed last
	trial     int // and which one was committed since, or -1
	count     map[string]int
}

// power boots once, and returns the running slot, or false if the power has
// failed.
func (l *life) power(t *testing.T) (int, bool) {
	t.Helper()
	c, e := otp.Of(l.c.Words()) // nothing is locked
	answered(t, e, api.OK)
	l.c = c
	pick := choose.All(l.f, c)
	m, b := boot.NewMachine(l.f, c), boot.New()
	switch l.r.Intn(4) {
	case 0:
		b.Run(m, l.r.Intn(boot.Bound()))
	case 1:
		b.Run(m, 36+l.r.Intn(2)) // there the journal is written, if it is
	}
	if b.Phase < 8 && l.r.Intn(3) == 0 {
		if o, ok := b.Pending(); ok {
			answered(t, journal.Tear(l.f, c, o, torn(l.r)), api.OK)
			l.count["torn"]++
		}
		b.Skip(m)
		l.count["off"]++
		return -1, false
	}
	if n := b.Run(m, boot.Bound()); n > boot.Bound() || b.Phase != 8 {
		t.Fatalf("phase %d after %d ticks, error %d", b.Phase, n, b.E)
	}
	if b.Slot != pick.Slot || b.Trial != pick.Trial {
		t.Fatalf("slot %d, not %d", b.Slot, pick.Slot)
	}
	want := l.confirmed
	if b.Trial {
		want = l.trial
	} else if l.trial >= 0 {
		l.trial = -1
		l.count["fallback"]++
	}
	runs(t, m, b, l.signed.payloads[want])
	l.count["run"]++
	return b.Slot, true
}

// torn returns few, some or many bits.
func torn(r *rand.Rand) []byte {
	p := make([]byte, r.Intn(page+1))
	r.Read(p)
	for i := range p {
		switch r.Intn(4) {
		case 0:
			p[i] = 0
		case 1:
			p[i] = 0xff
		}
	}
	return p
}

// work executes a plan of the running firmware, or a part of it, and tells
// whether it was done.
func (l *life) work(t *testing.T, p update.Place, ops []journal.Op) bool {
	t.Helper()
	if l.r.Intn(4) > 0 || len(ops) == 0 {
		answered(t, p.Do(ops...), api.OK)
		return true
	}
	answered(t, p.Cut(ops, l.r.Intn(len(ops)), torn(l.r)), api.OK)
	l.count["cut"]++
	return false
}

// update does one thing that running firmware may do, and tells whether there
// is still power.
func (l *life) update(t *testing.T, slot int) bool {
	t.Helper()
	p := update.Place{Flash: l.f, Chip: l.c, Running: slot}
	switch l.r.Intn(4) {
	case 0:
		i := l.r.Intn(len(l.signed.images))
		ops, e := p.Stage(l.signed.images[i])
		return e != api.OK || l.work(t, p, ops)
	case 1:
		ops, e := p.Commit()
		if e != api.OK {
			return true
		}
		v := choose.Look(l.f, l.c.Key(), l.c.Counter(), p.Target())
		whole := l.work(t, p, ops)
		if s, _ := journal.Read(l.f); s.Trial >= 0 {
			l.trial = which(l.signed.payloads, v.Payload)
			l.count["commit"]++
		}
		return whole
	case 2:
		ops, e := p.Confirm()
		if e != api.OK {
			return true
		}
		whole := l.work(t, p, ops)
		if s, _ := journal.Read(l.f); s.Trial < 0 {
			l.confirmed, l.trial = l.trial, -1
			l.count["confirm"]++
		}
		return whole
	}
	ops, e := p.Bump()
	if e == api.OK && len(ops) > 0 {
		l.count["bump"]++
	}
	return e != api.OK || l.work(t, p, ops)
}

// which returns which of these p is.
func which(l [][]byte, p []byte) int {
	for i, x := range l {
		if bytes.Equal(x, p) {
			return i
		}
	}
	return -1
}

// Whenever the power fails, the image that was confirmed last runs again, or
// one that was committed, and the counter is not above its version.
func TestNothingIsBricked(t *testing.T) {
	s := signerOf(t, 3)
	var l signed
	for version := range 25 {
		p := some(8 + 36*version)
		l.payloads, l.versions = append(l.payloads, p), append(l.versions, version)
		l.images = append(l.images, s.image(t, version, 4, p))
	}
	count := map[string]int{}
	for seed := range int64(25) {
		w := &life{f: flashOf(t, l.images[0], nil), c: chipOf(t, s.pub, 1+int(seed)%3, 0), r: rand.New(rand.NewSource(seed)), signed: l, trial: -1, count: count}
		before := 0
		for range 60 {
			slot, on := w.power(t)
			for range w.r.Intn(6) {
				on = on && w.update(t, slot)
			}
			if n := w.c.Counter(); n < before || n > l.versions[w.confirmed] {
				t.Fatalf("the counter is %d after %d, the version %d", n, before, l.versions[w.confirmed])
			}
			before = w.c.Counter()
		}
	}
	for _, what := range []string{"torn", "off", "fallback", "run", "cut", "commit", "confirm", "bump"} {
		if count[what] < 20 {
			t.Errorf("%s: %d", what, count[what])
		}
	}
}
