package update_test

import (
	"bytes"
	"math"
	"testing"

	"curtilage/api"
	"curtilage/choose"
	"curtilage/journal"
	"curtilage/otp"
	"curtilage/update"
)

var (
	commit  = update.Place.Commit
	confirm = update.Place.Confirm
	bump    = update.Place.Bump
)

// placeOf returns a place with the images of two versions, that of the slot
// that runs being the first.
func placeOf(t *testing.T, s signer, running, version, other, counter int) update.Place {
	t.Helper()
	l := [2][]byte{}
	l[running] = s.image(t, version, some(64))
	l[1-running] = s.image(t, other, some(300))
	f := flashOf(t, l[0], l[1])
	withState(t, f, journal.State{Seq: 6, Active: running, Trial: -1})
	return update.Place{Flash: f, Chip: counting(t, s.pub, counter), Running: running}
}

// booted holds which slot the next boot selects, executes what it writes, and
// returns the place of what runs then.
func booted(t *testing.T, p update.Place, slot int, trial bool) update.Place {
	t.Helper()
	pick := choose.All(p.Flash, p.Chip)
	if pick.Slot != slot || pick.Trial != trial || pick.E != api.OK {
		t.Fatalf("%v, not slot %d", pick, slot)
	}
	if pick.Change {
		answered(t, journal.Do(p.Flash, p.Chip, journal.Next(p.Flash, pick.State)...), api.OK)
	}
	p.Running = slot
	return p
}

// done executes a plan that there is.
func done(t *testing.T, p update.Place, plan func(update.Place) ([]journal.Op, api.Errno)) {
	t.Helper()
	l, e := plan(p)
	answered(t, e, api.OK)
	answered(t, p.Do(l...), api.OK)
}

func TestTheExample(t *testing.T) {
	s := signerOf(t, 1)
	p := placeOf(t, s, 0, 3, 0, 3)
	done(t, p, stage(s.image(t, 4, some(100))))
	p = booted(t, p, 0, false)
	done(t, p, commit)
	p = booted(t, p, 1, true)
	done(t, p, confirm)
	p = booted(t, p, 1, false)
	done(t, p, bump)
	if n := p.Chip.Counter(); n != 4 {
		t.Errorf("the counter is %d", n)
	}
	// And back into the slot that is free now.
	done(t, p, stage(s.image(t, 4, some(8))))
	done(t, p, commit)
	for range 3 {
		p = booted(t, p, 0, true)
	}
	p = booted(t, p, 1, false) // it was never confirmed
	booted(t, p, 1, false)
}

// Without a record the active slot is 0.
func TestOfABlankFlash(t *testing.T) {
	s := signerOf(t, 1)
	for running := range 2 {
		p := update.Place{Flash: blankOf(t, api.Pages), Chip: counting(t, s.pub, 0), Running: running}
		if running == 1 {
			for _, plan := range []func(update.Place) ([]journal.Op, api.Errno){stage(nil), commit, confirm, bump} {
				refused(t, p, plan, api.ErrState)
			}
			continue
		}
		planned(t, p, stage(nil), staging(1, nil)...)
		refused(t, p, commit, api.ErrForm)
		refused(t, p, confirm, api.ErrState)
		refused(t, p, bump, api.ErrForm)
		done(t, p, stage(s.image(t, 0, some(4))))
		planned(t, p, commit, journal.Op{Kind: 1, Page: 32}, journal.Op{Kind: 2, Page: 32, Bytes: recordOf(journal.State{Seq: 1, Active: 0, Trial: 1})})
	}
}

func TestTarget(t *testing.T) {
	f, c := blankOf(t, api.Pages), otp.New()
	for running := range 2 {
		for _, st := range states(3) {
			withState(t, f, st)
			if got := (update.Place{Flash: f, Chip: c, Running: running}).Target(); got != 1-running {
				t.Errorf("running %d, %v: %d", running, st, got)
			}
		}
	}
}

// Everything returns ErrArg then, whatever else is wrong.
func TestPlacesThatThereAreNot(t *testing.T) {
	s := signerOf(t, 1)
	good := placeOf(t, s, 0, 3, 3, 3)
	var l []update.Place
	for _, running := range noSlots {
		l = append(l, update.Place{Flash: good.Flash, Chip: good.Chip, Running: running}, update.Place{Running: running})
	}
	for running := range 2 {
		l = append(l, update.Place{Running: running}, update.Place{Flash: good.Flash, Running: running}, update.Place{Chip: good.Chip, Running: running})
	}
	before := copyOf(t, good)
	for _, st := range states(7) {
		withState(t, good.Flash, st)
		withState(t, before.Flash, st)
		for _, p := range l {
			for _, plan := range []func(update.Place) ([]journal.Op, api.Errno){stage(nil), stage(some(100)), stage(some(5000)), commit, confirm, bump} {
				refused(t, p, plan, api.ErrArg)
			}
			ops := []journal.Op{{Kind: 1, Page: 0}, {Kind: 1, Page: 99}, {Kind: 3, Word: 1, Value: 0xff}}
			for n := range ops {
				answered(t, p.Do(ops[:n]...), api.ErrArg)
				answered(t, p.Cut(ops[n:], n-1, full(page)), api.ErrArg)
				answered(t, p.Cut(ops[:n], n, full(page)), api.ErrArg)
			}
			if got := p.Target(); got != -1 {
				t.Errorf("the target is %d", got)
			}
			alike(t, good, before)
		}
	}
}

func TestStage(t *testing.T) {
	s := signerOf(t, 1)
	for running := range 2 {
		p := placeOf(t, s, running, 3, 5, 3)
		for _, n := range []int{0, 1, 2, 255, 256, 257, 511, 512, 513, 2048, 3839, 3840, 3841, 4095, 4096} {
			image := some(n)
			planned(t, p, stage(image), staging(1-running, image)...)
			q := copyOf(t, p)
			done(t, q, stage(image))
			want := memOf(t, p.Flash)
			copy(want[slotSize*(1-running):], append(bytes.Clone(image), full(slotSize-n)...))
			if !bytes.Equal(memOf(t, q.Flash), want) {
				t.Fatalf("%d bytes: the flash has others", n)
			}
			// The same once more, over what is there now.
			planned(t, q, stage(image), staging(1-running, image)...)
		}
		// Also bytes that are as if erased are written.
		planned(t, p, stage(full(600)), staging(1-running, full(600))...)
	}
}

func TestImagesThatAreTooLong(t *testing.T) {
	s := signerOf(t, 1)
	for running := range 2 {
		p := placeOf(t, s, running, 3, 5, 3)
		for _, n := range []int{4097, 4098, 4352, 5000, 8192, 1 << 20} {
			for _, st := range states(8) { // it is found before the state
				withState(t, p.Flash, st)
				refused(t, p, stage(some(n)), api.ErrLong)
			}
		}
	}
}

// Of every state, whichever slot runs.
func TestStates(t *testing.T) {
	s := signerOf(t, 1)
	image := some(300)
	for running := range 2 {
		p := placeOf(t, s, running, 5, 6, 4)
		for _, st := range states(9) {
			withState(t, p.Flash, st)
			if st.Trial == -1 && st.Active == running {
				planned(t, p, stage(image), staging(1-running, image)...)
				planned(t, p, commit, rewriting(journal.State{Seq: 10, Active: running, Trial: 1 - running})...)
				planned(t, p, bump, raising(p.Chip, 5)...)
			} else {
				refused(t, p, stage(image), api.ErrState)
				refused(t, p, stage(nil), api.ErrState)
				refused(t, p, commit, api.ErrState)
				refused(t, p, bump, api.ErrState)
			}
			if st.Trial == running {
				planned(t, p, confirm, rewriting(journal.State{Seq: 10, Active: running, Trial: -1})...)
			} else {
				refused(t, p, confirm, api.ErrState)
			}
		}
	}
}

// The state comes before what is in the slots, and Confirm does not look there.
func TestStatesOfEmptySlots(t *testing.T) {
	for running := range 2 {
		p := update.Place{Flash: blankOf(t, api.Pages), Chip: otp.New(), Running: running}
		for _, st := range states(9) {
			withState(t, p.Flash, st)
			want := api.ErrState
			if st.Trial == -1 && st.Active == running {
				want = api.ErrForm
			}
			refused(t, p, commit, want)
			refused(t, p, bump, want)
			if st.Trial == running {
				planned(t, p, confirm, rewriting(journal.State{Seq: 10, Active: running, Trial: -1})...)
			} else {
				refused(t, p, confirm, api.ErrState)
			}
		}
	}
}

// After the last Seq nothing can be stored.
func TestTheLastSeq(t *testing.T) {
	s := signerOf(t, 1)
	p := placeOf(t, s, 1, 5, 6, 4)
	withState(t, p.Flash, journal.State{Seq: math.MaxUint32, Active: 1, Trial: -1})
	planned(t, p, commit)
	planned(t, p, bump, raising(p.Chip, 5)...)
	withState(t, p.Flash, journal.State{Seq: math.MaxUint32, Active: 0, Trial: 1, Tries: 1})
	planned(t, p, confirm)
	withState(t, p.Flash, journal.State{Seq: math.MaxUint32 - 1, Active: 0, Trial: 1, Tries: 1})
	planned(t, p, confirm, rewriting(journal.State{Seq: math.MaxUint32, Active: 1, Trial: -1})...)
}

// Commit has the errors of the target's view, and Bump those of the other one.
func TestErrorsOfViews(t *testing.T) {
	s, other := signerOf(t, 1), signerOf(t, 2)
	payload := some(64)
	good := s.image(t, 5, payload)
	changed := func(at int) []byte {
		p := bytes.Clone(good)
		p[at] ^= 1
		return p
	}
	for _, x := range []struct {
		image   []byte
		counter int
		want    api.Errno
	}{
		{nil, 0, api.ErrForm},
		{some(4096), 0, api.ErrForm},
		{good[:48], 5, api.ErrForm},
		{s.image(t, 5, some(63)), 0, api.ErrArg},
		{s.image(t, 256, payload), 0, api.ErrArg},
		{changed(0), 5, api.ErrForm},
		{changed(7), 5, api.ErrSign},
		{changed(300), 5, api.ErrSign},
		{changed(len(good) - 1), 5, api.ErrDigest},
		{other.image(t, 5, payload), 5, api.ErrSign},
		{good, 6, api.ErrOld},
		{good, 255, api.ErrOld},
	} {
		for running := range 2 {
			p := placeOf(t, s, running, 255, 255, x.counter)
			write := func(slot int) {
				for i := range 16 {
					answered(t, p.Flash.Erase(16*slot+i), api.OK)
				}
				answered(t, p.Flash.Write(slotSize*slot, x.image), api.OK)
			}
			write(1 - running)
			refused(t, p, commit, x.want)
			planned(t, p, bump, raising(p.Chip, 255)...)
			p = placeOf(t, s, running, 255, 255, x.counter)
			write(running)
			planned(t, p, commit, rewriting(journal.State{Seq: 7, Active: running, Trial: 1 - running})...)
			refused(t, p, bump, x.want)
		}
	}
}

// An image as old as the counter is not too old.
func TestVersionsOfCommits(t *testing.T) {
	s := signerOf(t, 1)
	for _, counter := range []int{0, 1, 31, 32, 33, 254, 255} {
		for _, version := range []int{0, 1, 30, 31, 32, 33, 253, 254, 255} {
			p := placeOf(t, s, 1, 255, version, counter)
			if version < counter {
				refused(t, p, commit, api.ErrOld)
			} else {
				planned(t, p, commit, rewriting(journal.State{Seq: 7, Active: 1, Trial: 0})...)
			}
		}
	}
}

func TestBump(t *testing.T) {
	s := signerOf(t, 1)
	for _, version := range []int{0, 1, 2, 31, 32, 33, 63, 64, 65, 100, 254, 255} {
		p := placeOf(t, s, version%2, version, 0, 0)
		for _, counter := range []int{0, 1, 2, 31, 32, 33, 63, 64, 99, 100, 254, 255} {
			p.Chip = counting(t, s.pub, counter)
			if version < counter {
				refused(t, p, bump, api.ErrOld)
				continue
			}
			planned(t, p, bump, raising(p.Chip, version)...)
			q := copyOf(t, p)
			done(t, q, bump)
			if n := q.Chip.Counter(); n != version {
				t.Fatalf("the counter is %d, not %d", n, version)
			}
			planned(t, q, bump) // there is nothing left to do
		}
	}
}

// Bits that a torn plan has set are no obstacle, unless the counter would run
// on through them.
func TestBumpAfterTornBits(t *testing.T) {
	s := signerOf(t, 1)
	for _, version := range []int{0, 1, 5, 31, 32, 33, 64, 100, 254} {
		p := placeOf(t, s, 0, version, 0, 0)
		for _, from := range []int{version - 3, version - 1, version, version + 1, version + 2, version + 40, 254} {
			for _, bits := range []int{1, 2, 40} {
				p.Chip = chipOf(t, s.pub, func(i int) bool { return i >= from && i < from+bits || i == 0 && version > 1 })
				if from <= version && version < from+bits || p.Chip.Counter() > version {
					want := api.ErrFuse
					if p.Chip.Counter() > version {
						want = api.ErrOld
					}
					refused(t, p, bump, want)
					continue
				}
				planned(t, p, bump, raising(p.Chip, version)...)
				q := copyOf(t, p)
				done(t, q, bump)
				if n := q.Chip.Counter(); n != version {
					t.Fatalf("version %d, bits from %d on: the counter is %d", version, from, n)
				}
			}
		}
	}
}

// The fuses that are locked count, too.
func TestOfALockedChip(t *testing.T) {
	s := signerOf(t, 1)
	p := placeOf(t, s, 0, 9, 7, 3)
	before := copyOf(t, p)
	for i := range 64 {
		answered(t, p.Chip.Lock(i), api.OK)
	}
	planned(t, p, bump, raising(before.Chip, 9)...)
	planned(t, p, commit, rewriting(journal.State{Seq: 7, Active: 0, Trial: 1})...)
	done(t, p, bump)
	if n := p.Chip.Counter(); n != 9 {
		t.Errorf("the counter is %d", n)
	}
}

// In flashes of fewer pages there are plans, which cannot be executed, or not.
func TestSmallFlashes(t *testing.T) {
	s := signerOf(t, 1)
	for _, pages := range []int{0, 1, 15, 16, 17, 31, 32, 33} {
		for running := range 2 {
			f := blankOf(t, pages)
			f.Write(0, s.image(t, 2, some(8)))
			f.Write(slotSize, s.image(t, 3, some(8)))
			p := update.Place{Flash: f, Chip: counting(t, s.pub, 1), Running: running}
			l, e := p.Stage(some(8))
			if running == 1 {
				answered(t, e, api.ErrState)
				refused(t, p, bump, api.ErrState)
				continue
			}
			answered(t, e, api.OK)
			if e := copyOf(t, p).Do(l...); (e == api.OK) != (pages >= 32) || e != api.OK && e != api.ErrMap {
				t.Errorf("%d pages: error %d", pages, e)
			}
			if pages < 32 {
				refused(t, p, commit, api.ErrArg)
			}
			if pages < 16 {
				refused(t, p, bump, api.ErrArg)
			} else {
				planned(t, p, bump, raising(p.Chip, 2)...)
			}
		}
	}
}

func TestResultsAreOfTheirOwn(t *testing.T) {
	s := signerOf(t, 1)
	p := placeOf(t, s, 0, 9, 9, 3)
	image := some(1000)
	kept := bytes.Clone(image)
	l, e := p.Stage(image)
	answered(t, e, api.OK)
	for i := range l {
		b := l[i].Bytes
		clear(b[:cap(b)])
	}
	if !bytes.Equal(image, kept) {
		t.Fatal("the plan shares memory with the image")
	}
	l, e = p.Stage(image)
	answered(t, e, api.OK)
	clear(image)
	sameOps := func(p update.Place) ([]journal.Op, api.Errno) { return l, e }
	planned(t, p, sameOps, staging(1, kept)...)
	for i := range l {
		before := bytes.Clone(l[i].Bytes)
		for k := range l {
			if b := l[k].Bytes; k != i {
				clear(b[:cap(b)])
			}
		}
		if !bytes.Equal(before, l[i].Bytes) {
			t.Fatal("two operations share memory")
		}
		l, e = p.Stage(kept)
		answered(t, e, api.OK)
	}
	for _, plan := range []func(update.Place) ([]journal.Op, api.Errno){stage(kept), commit, bump} {
		l, e = plan(p)
		answered(t, e, api.OK)
		clear(l[:cap(l)])
		l, e = plan(p)
		answered(t, e, api.OK)
		if len(l) == 0 || l[0].Kind == 0 {
			t.Error("two results share memory")
		}
	}
}
