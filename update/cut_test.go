package update_test

import (
	"bytes"
	"encoding/binary"
	"math"
	"math/rand"
	"testing"

	"curtilage/api"
	"curtilage/choose"
	"curtilage/journal"
	"curtilage/otp"
	"curtilage/update"
)

// mixed is operations of all kinds, of which each shows that it was executed.
func mixed() []journal.Op {
	return []journal.Op{
		{Kind: 1, Page: 3},
		{Kind: 2, Page: 3, At: 7, Bytes: some(40)},
		{Kind: 3, Word: 1, Value: 0xffff},
		{Kind: 2, Page: 3, At: 47, Bytes: some(50)},
		{Kind: 3, Word: 2, Value: 5},
		{Kind: 1, Page: 20},
	}
}

// mixedPlace is a place for them.
func mixedPlace(t *testing.T) update.Place {
	t.Helper()
	f := flashOf(t, some(4096), some(4096))
	return update.Place{Flash: f, Chip: otp.New(), Running: 1}
}

func TestDo(t *testing.T) {
	l := mixed()
	for n := range len(l) + 1 {
		p, q := mixedPlace(t), mixedPlace(t)
		answered(t, p.Do(l[:n]...), api.OK)
		answered(t, journal.Do(q.Flash, q.Chip, l[:n]...), api.OK)
		alike(t, p, q)
	}
	// The first error ends it.
	for _, x := range []struct {
		bad  journal.Op
		want api.Errno
	}{
		{journal.Op{}, api.ErrArg},
		{journal.Op{Kind: 4}, api.ErrArg},
		{journal.Op{Kind: 1, Page: 40}, api.ErrMap},
		{journal.Op{Kind: 2, Page: 40, Bytes: some(1)}, api.ErrMap},
		{journal.Op{Kind: 2, Page: 20, Bytes: full(1)}, api.ErrState},
		{journal.Op{Kind: 3, Word: 64}, api.ErrMap},
		{journal.Op{Kind: 3, Word: 0, Value: 1}, api.ErrFuse},
	} {
		for n := range l {
			p, q := mixedPlace(t), mixedPlace(t)
			answered(t, p.Chip.Program(0, 2), api.OK)
			answered(t, q.Chip.Program(0, 2), api.OK)
			bad := append(append(append([]journal.Op{}, l[:n]...), x.bad), l[n:]...)
			answered(t, p.Do(bad...), x.want)
			answered(t, q.Do(l[:n]...), api.OK)
			alike(t, p, q)
			// Cut ends with it, too, wherever the power would have failed later.
			for done := n; done <= len(bad)+1; done++ {
				p := mixedPlace(t)
				answered(t, p.Chip.Program(0, 2), api.OK)
				answered(t, p.Cut(bad, done, full(page)), x.want)
				alike(t, p, q)
			}
			for done := range n {
				p, q := mixedPlace(t), mixedPlace(t)
				answered(t, p.Cut(bad, done, some(page)), api.OK)
				answered(t, q.Cut(l, done, some(page)), api.OK)
				alike(t, p, q)
			}
		}
	}
}

func TestCut(t *testing.T) {
	l := mixed()
	for _, done := range []int{math.MinInt, -7, -1, 0, 1, 2, 3, 4, 5, 6, 7, 8, 1 << 32, math.MaxInt} {
		for _, mask := range [][]byte{nil, {0}, {0x0f, 0xf0}, full(page), some(page), some(300), {0, 0, 0, 0x55}} {
			p, q := mixedPlace(t), mixedPlace(t)
			answered(t, p.Cut(l, done, mask), api.OK)
			first := max(0, min(done, len(l)))
			answered(t, q.Do(l[:first]...), api.OK)
			if first < len(l) {
				answered(t, journal.Tear(q.Flash, q.Chip, l[first], mask), api.OK)
			}
			alike(t, p, q)
		}
	}
	p := mixedPlace(t)
	for _, done := range []int{-1, 0, 1} {
		answered(t, p.Cut(nil, done, full(page)), api.OK)
		alike(t, p, mixedPlace(t))
	}
}

func TestArgumentsAreLeftAloneAndNotKept(t *testing.T) {
	p := mixedPlace(t)
	mask := some(300)
	text := some(600)
	l := []journal.Op{{Kind: 1, Page: 4, Bytes: text[:3]}, {Kind: 2, Page: 4, Bytes: text[3:200]}, {Kind: 2, Page: 4, At: 200, Bytes: text[200:250]}}
	answered(t, p.Do(l[:2]...), api.OK)
	answered(t, p.Cut(l, 2, mask[:40]), api.OK)
	long := some(500)
	_, e := p.Stage(long[:400])
	answered(t, e, api.ErrState)
	if !bytes.Equal(mask, some(300)) || !bytes.Equal(text, some(600)) || !bytes.Equal(long, some(500)) {
		t.Error("an argument is changed")
	}
	if l[0].Kind != 1 || l[1].Page != 4 || l[2].At != 200 || len(l[1].Bytes) != 197 {
		t.Error("an operation is changed")
	}
	before := memOf(t, p.Flash)
	clear(mask)
	clear(text)
	if !bytes.Equal(memOf(t, p.Flash), before) {
		t.Error("an argument is kept")
	}
}

// masks returns which bits are changed when the power fails: a beginning, an
// end, one byte or one bit, all but one byte or one bit, some.
func masks() [][]byte {
	l := [][]byte{nil, full(page), some(page)}
	for n := range 33 {
		rest := append(make([]byte, n), full(page-n)...)
		one := append(make([]byte, n), 0xff)
		l = append(l, full(n), rest, one, append(full(n), append([]byte{0}, full(page-n-1)...)...))
		for k := range 8 {
			bit := append(full(n), append([]byte{^byte(1 << k)}, full(page-n-1)...)...)
			l = append(l, append(make([]byte, n), 1<<k), bit)
		}
	}
	return l
}

// wordMasks returns which bits of a word are set when the power fails: a
// beginning, an end, one, all but one, some.
func wordMasks() [][]byte {
	l := [][]byte{nil, some(4), some(9)[5:]}
	for n := range 33 {
		low := uint32(1<<n - 1)
		for _, v := range []uint32{low, ^low, low &^ (low >> 1), ^(low &^ (low >> 1))} {
			l = append(l, binary.BigEndian.AppendUint32(nil, v))
		}
	}
	return l
}

// cuts calls what is to hold after each cut of a plan, with how much of it was
// done before, and with the place after the cut.
func cuts(t *testing.T, p update.Place, l []journal.Op, tears [][]byte, holds func(int, update.Place)) {
	t.Helper()
	for n := range l {
		ready := copyOf(t, p)
		answered(t, ready.Do(l[:n]...), api.OK)
		for _, mask := range tears {
			q := copyOf(t, ready)
			answered(t, q.Cut(l[n:], 0, mask), api.OK)
			holds(n, q)
		}
	}
}

// pages holds that a slot has the same bytes in two places.
func pages(t *testing.T, a, b update.Place, slot int) {
	t.Helper()
	x, e := a.Flash.Read(slotSize*slot, slotSize)
	answered(t, e, api.OK)
	y, e := b.Flash.Read(slotSize*slot, slotSize)
	answered(t, e, api.OK)
	if !bytes.Equal(x, y) {
		t.Fatalf("slot %d has changed", slot)
	}
}

// Wherever staging is cut, the slot that runs, the journal and the counter are
// as before, and the image can be staged then.
func TestCutsOfStage(t *testing.T) {
	s := signerOf(t, 1)
	for running := range 2 {
		p := placeOf(t, s, running, 5, 6, 4)
		image := s.image(t, 7, some(500))
		l, e := p.Stage(image)
		answered(t, e, api.OK)
		want, _ := journal.Read(p.Flash)
		cuts(t, p, l, masks(), func(n int, q update.Place) {
			pages(t, p, q, running)
			if got, _ := journal.Read(q.Flash); got != want || q.Chip.Counter() != 4 {
				t.Fatalf("%v, counter %d", got, q.Chip.Counter())
			}
			planned(t, q, stage(image), staging(1-running, image)...)
		})
		done(t, p, stage(image))
		planned(t, p, commit, rewriting(journal.State{Seq: 7, Active: running, Trial: 1 - running})...)
	}
}

// Wherever the journal is being written, it has the state before or the new
// one; what is in the slots stays there.
func TestCutsOfCommitAndConfirm(t *testing.T) {
	s := signerOf(t, 1)
	for running := range 2 {
		for _, x := range []struct {
			before, after journal.State
			plan          func(update.Place) ([]journal.Op, api.Errno)
		}{
			{journal.State{Active: running, Trial: -1}, journal.State{Active: running, Trial: 1 - running}, commit},
			{journal.State{Active: 1 - running, Trial: running, Tries: 2}, journal.State{Active: running, Trial: -1}, confirm},
		} {
			p := placeOf(t, s, running, 5, 6, 4)
			x.before.Seq, x.after.Seq = 8, 9
			withState(t, p.Flash, x.before)
			l, e := x.plan(p)
			answered(t, e, api.OK)
			old, new := 0, 0
			cuts(t, p, l, masks(), func(n int, q update.Place) {
				pages(t, p, q, 0)
				pages(t, p, q, 1)
				switch got, _ := journal.Read(q.Flash); {
				case got == x.before:
					old++
					planned(t, q, x.plan, l...)
				case got == x.after && n == 1:
					new++
				default:
					t.Fatalf("%v", got)
				}
			})
			if old < 100 || new < 1 {
				t.Errorf("%d and %d", old, new)
			}
		}
	}
}

// However much of it is torn, the counter never decreases nor gets above the
// version, and the next plan completes it.
func TestCutsOfBump(t *testing.T) {
	s := signerOf(t, 1)
	for _, x := range [][2]int{{0, 1}, {0, 5}, {3, 31}, {3, 32}, {30, 33}, {0, 100}, {64, 255}} {
		counter, version := x[0], x[1]
		p := placeOf(t, s, 0, version, 0, counter)
		l, e := p.Bump()
		answered(t, e, api.OK)
		cuts(t, p, l, wordMasks(), func(n int, q update.Place) {
			if got := q.Chip.Counter(); got < counter || got > version {
				t.Fatalf("the counter is %d", got)
			}
			booted(t, q, 0, false)
			done(t, q, bump)
			if got := q.Chip.Counter(); got != version {
				t.Fatalf("the counter is %d, not %d", got, version)
			}
		})
	}
}

// Whatever is left of a torn plan for one version, the counter does not get
// above another one that is confirmed after it.
func TestBumpOfAnOlderImage(t *testing.T) {
	s := signerOf(t, 1)
	var l [9]update.Place
	for version := range l {
		l[version] = placeOf(t, s, 0, version, 8, 0)
	}
	refusals := 0
	for bits := range byte(255) {
		torn := counting(t, s.pub, 0)
		p := update.Place{Flash: l[8].Flash, Chip: torn}
		ops, e := p.Bump()
		answered(t, e, api.OK)
		answered(t, p.Cut(ops, 0, []byte{0, 0, 0, bits}), api.OK)
		for version, q := range l {
			q = copyOf(t, update.Place{Flash: q.Flash, Chip: torn})
			before := q.Chip.Counter()
			ops, e := q.Bump()
			switch {
			case version < before:
				answered(t, e, api.ErrOld)
			case version < 8 && bits>>version&1 != 0:
				answered(t, e, api.ErrFuse)
				refusals++
			default:
				answered(t, e, api.OK)
				answered(t, q.Do(ops...), api.OK)
				if got := q.Chip.Counter(); got != version {
					t.Fatalf("bits %x: the counter is %d, not %d", bits, got, version)
				}
			}
			if e != api.OK && (len(ops) > 0 || q.Chip.Counter() != before) {
				t.Fatalf("bits %x, version %d: %v", bits, version, ops)
			}
		}
	}
	if refusals < 100 {
		t.Errorf("%d refusals", refusals)
	}
}

// life is a place over many boots, and what the document promises of it.
type life struct {
	update.Place
	r         *rand.Rand
	images    [][]byte // those that may be staged
	versions  []int
	confirmed []byte // what the active slot begins with, and its version
	version   int
	committed []byte // what is on trial, if anything is
	next      int
	count     [counts]int // of what has happened
}

// What is counted.
const (
	wholes = iota
	torns
	confirmations
	fallbacks
	bumps
	older
	refusals
	counts
)

// boot boots, the power failing in what it writes now and then.
func (w *life) boot(t *testing.T) {
	t.Helper()
	for {
		pick := choose.All(w.Flash, w.Chip)
		answered(t, pick.E, api.OK)
		w.Running = pick.Slot
		if !pick.Change || w.execute(t, journal.Next(w.Flash, pick.State)) {
			break
		}
	}
	s, _ := journal.Read(w.Flash)
	if s.Trial == -1 && w.committed != nil {
		w.committed = nil
		w.count[fallbacks]++
	}
}

// execute executes a plan, or a part of it, and tells whether it is done.
func (w *life) execute(t *testing.T, l []journal.Op) bool {
	t.Helper()
	if w.r.Intn(3) > 0 || len(l) == 0 {
		answered(t, w.Do(l...), api.OK)
		w.count[wholes]++
		return true
	}
	answered(t, w.Cut(l, w.r.Intn(len(l)), torn(w.r)), api.OK)
	w.count[torns]++
	return false
}

// torn returns few, some or many bits.
func torn(r *rand.Rand) []byte {
	p := make([]byte, r.Intn(page+1))
	r.Read(p)
	for i := range p {
		switch r.Intn(4) {
		case 0:
			p[i] = 0
		case 1:
			p[i] = 0xff
		}
	}
	return p
}

// act makes a plan and executes it.
func (w *life) act(t *testing.T) {
	t.Helper()
	i := w.r.Intn(len(w.images))
	var l []journal.Op
	var e api.Errno
	what := w.r.Intn(4)
	switch what {
	case 0:
		l, e = w.Stage(w.images[i])
	case 1:
		l, e = w.Commit()
	case 2:
		l, e = w.Confirm()
	case 3:
		l, e = w.Bump()
	}
	if e == api.ErrFuse {
		w.count[refusals]++
	}
	if e != api.OK {
		return
	}
	ready := choose.Look(w.Flash, w.Chip.Key(), w.Chip.Counter(), w.Target())
	whole := w.execute(t, l)
	s, _ := journal.Read(w.Flash)
	switch {
	case what == 1 && s.Trial == w.Target():
		w.committed, w.next = ready.Payload, ready.Man.Version
	case what == 2 && s.Active == w.Running && s.Trial == -1:
		w.count[confirmations]++
		if w.next < w.version {
			w.count[older]++
		}
		w.confirmed, w.version, w.committed = w.committed, w.next, nil
	case what == 3 && whole && len(l) > 0:
		w.count[bumps]++
		if w.Chip.Counter() != w.version {
			t.Fatalf("the counter is %d, not %d", w.Chip.Counter(), w.version)
		}
	}
}

// holds holds that the image that was confirmed last is there and valid, and
// the counter not above its version; and the same of one that is on trial.
func (w *life) holds(t *testing.T) {
	t.Helper()
	s, _ := journal.Read(w.Flash)
	v := choose.Look(w.Flash, w.Chip.Key(), w.Chip.Counter(), s.Active)
	if v.E != api.OK || !bytes.Equal(v.Payload, w.confirmed) || w.Chip.Counter() > w.version {
		t.Fatalf("error %d, version %d, counter %d", v.E, w.version, w.Chip.Counter())
	}
	if s.Trial == -1 {
		return
	}
	v = choose.Look(w.Flash, w.Chip.Key(), w.Chip.Counter(), s.Trial)
	if v.E != api.OK || !bytes.Equal(v.Payload, w.committed) {
		t.Fatalf("error %d of what is on trial", v.E)
	}
}

// newLife returns a chip with an image of version 0 in slot 0, and images to
// stage: also some that are not valid, or nothing at all.
func newLife(t *testing.T, s signer, seed int64, most int) *life {
	t.Helper()
	w := &life{r: rand.New(rand.NewSource(seed)), images: [][]byte{nil, some(3000)}}
	for version := range most {
		w.images = append(w.images, s.image(t, version, some(40+4*version)))
	}
	w.confirmed = some(40)
	w.Place = update.Place{Flash: flashOf(t, w.images[2], nil), Chip: counting(t, s.pub, 0)}
	return w
}

// However often the power fails, what was confirmed runs again.
func TestManyCuts(t *testing.T) {
	s := signerOf(t, 1)
	var count [counts]int
	for seed := range int64(45) {
		w := newLife(t, s, seed, 10+int(seed))
		for range 60 {
			w.boot(t)
			w.holds(t)
			for range 1 + w.r.Intn(4) {
				w.act(t)
				w.holds(t)
			}
		}
		for i := range count {
			count[i] += w.count[i]
		}
	}
	for i, n := range count {
		if n < []int{1000, 500, 100, 30, 30, 10, 1}[i] {
			t.Errorf("%v", count)
		}
	}
}

// A copy of the flash and the chip goes on as they do.
func TestPlansHangOnTheStateOnly(t *testing.T) {
	s := signerOf(t, 1)
	p := placeOf(t, s, 1, 5, 6, 4)
	q := update.Place{Flash: p.Flash.Copy(), Chip: &otp.Chip{Array: p.Chip.Copy()}, Running: 1}
	for _, plan := range []func(update.Place) ([]journal.Op, api.Errno){stage(some(700)), bump} {
		done(t, p, plan)
		done(t, q, plan)
		alike(t, p, q)
	}
}
