package choose_test

import (
	"bytes"
	"math"
	"slices"
	"testing"

	"curtilage/api"
	"curtilage/choose"
	"curtilage/flash"
	"curtilage/journal"
	"curtilage/manifest"
	"curtilage/otp"
)

func TestTheExample(t *testing.T) {
	s := signerOf(t, 3)
	f, c := flashOf(t, s.good(t, 0, 64), nil), chipOf(t, s.pub, api.Dev, 0)
	want := choose.Choice{Slot: 0, State: journal.First()}
	if got := choose.All(f, c); got != want {
		t.Errorf("%v", got)
	}
}

func TestLook(t *testing.T) {
	s := signerOf(t, 4)
	for i, size := range []int{4, 8, 252, 256, 1000, 2044, 2048} {
		for _, version := range []int{0, 1, 255} {
			p, q := some(size), some(size + 9)[9:]
			m, n := manifestOf(version, 0, p), manifestOf(255-version, size-4, q)
			f := flashOf(t, append(s.image(t, m, p), some(i)...), s.image(t, n, q))
			mem := memOf(t, f)
			for range 2 {
				for _, least := range []int{math.MinInt, -1, 0, version} {
					seen(t, choose.Look(f, s.pub, least, 0), m, p)
				}
				for _, least := range []int{math.MinInt, -1, 0, 255 - version} {
					seen(t, choose.Look(f, s.pub, least, 1), n, q)
				}
				unseen(t, choose.Look(f, s.pub, version+1, 0), api.ErrOld)
				unseen(t, choose.Look(f, s.pub, 256-version, 1), api.ErrOld)
				unseen(t, choose.Look(f, s.pub, math.MaxInt, 1), api.ErrOld)
			}
			if !bytes.Equal(memOf(t, f), mem) {
				t.Fatal("the flash is changed")
			}
		}
	}
}

// Each slot has its own error, those of layer 8.
func TestErrorsOfViews(t *testing.T) {
	s, other := signerOf(t, 3), signerOf(t, 4)
	p := some(64)
	m := manifestOf(5, 8, p)
	good := s.image(t, m, p)
	changed := func(at int) []byte {
		q := bytes.Clone(good)
		q[at] ^= 1
		return q
	}
	for _, x := range []struct {
		image []byte
		want  api.Errno
	}{
		{nil, api.ErrForm}, // all bits are set
		{some(4096), api.ErrForm},
		{make([]byte, 4096), api.ErrForm},
		{good[:48], api.ErrForm},
		{changed(0), api.ErrForm},
		{s.image(t, manifest.Manifest{Version: 256, Size: 64}, p), api.ErrArg},
		{s.image(t, manifest.Manifest{Version: 5, Size: 2052}, p), api.ErrArg},
		{changed(7), api.ErrSign},
		{changed(47), api.ErrSign},
		{changed(48), api.ErrForm},
		{changed(49), api.ErrForm},
		{changed(50 + 200), api.ErrSign},
		{changed(50 + 7), api.ErrForm},
		{changed(len(good) - 1), api.ErrDigest},
		{changed(len(good) - 64), api.ErrDigest},
		{s.image(t, m, some(63)), api.ErrDigest},
		{other.image(t, m, p), api.ErrType},
		{good, api.OK},
	} {
		for slot := range 2 {
			f := flashOf(t, good, good)
			for i := range 16 {
				answered(t, f.Erase(16*slot+i), api.OK)
			}
			put(t, f, slotSize*slot, x.image)
			seen(t, choose.Look(f, s.pub, 5, 1-slot), m, p)
			if x.want == api.OK {
				seen(t, choose.Look(f, s.pub, 5, slot), m, p)
				continue
			}
			unseen(t, choose.Look(f, s.pub, 5, slot), x.want)
		}
	}
}

func TestKeysOfViews(t *testing.T) {
	s := signerOf(t, 3)
	f := flashOf(t, s.good(t, 3, 8), nil)
	unseen(t, choose.Look(f, nil, 0, 0), api.ErrForm)
	unseen(t, choose.Look(f, s.pub[:55], 0, 0), api.ErrForm)
	unseen(t, choose.Look(f, append(bytes.Clone(s.pub), 0), 0, 0), api.ErrForm)
	unseen(t, choose.Look(f, make([]byte, 56), 0, 0), api.ErrType)
	unseen(t, choose.Look(f, make([]byte, 56), 9, 0), api.ErrType) // the signature comes before the version
	for i := 8; i < 56; i++ {
		pub := bytes.Clone(s.pub)
		pub[i] ^= 0x40
		unseen(t, choose.Look(f, pub, 0, 0), api.ErrSign)
	}
}

// A slot is its pages: all of them, and no others.
func TestPagesOfViews(t *testing.T) {
	s := signerOf(t, 3)
	p := some(64)
	m := manifestOf(5, 8, p)
	good := s.image(t, m, p)
	for _, pages := range []int{0, 1, 15, 16, 17, 30, 31, 32, 33, 40, 48, 1024} {
		f := blankOf(t, pages)
		f.Write(0, good)
		f.Write(slotSize, good)
		for slot := range 2 {
			if pages < 16*(slot+1) {
				unseen(t, choose.Look(f, s.pub, 0, slot), api.ErrArg)
			} else {
				seen(t, choose.Look(f, s.pub, 0, slot), m, p)
			}
		}
		if pages >= 48 {
			put(t, f, 2*slotSize, good) // no slot is there
		}
		for _, slot := range noSlots {
			unseen(t, choose.Look(f, s.pub, 0, slot), api.ErrArg)
		}
	}
	for _, slot := range append([]int{0, 1}, noSlots...) {
		unseen(t, choose.Look(nil, s.pub, 0, slot), api.ErrArg)
	}
}

func TestImagesElsewhere(t *testing.T) {
	s := signerOf(t, 4)
	good := s.good(t, 5, 8)
	for _, at := range []int{1, 255, 256, 4000, 4095, 4097, 4352, 6000, 8192} {
		f := blankOf(t, api.Pages)
		put(t, f, at, good)
		unseen(t, choose.Look(f, s.pub, 0, 0), api.ErrForm)
		unseen(t, choose.Look(f, s.pub, 0, 1), api.ErrForm)
	}
}

// An image may fill its slot, but not reach into what follows.
func TestLongImages(t *testing.T) {
	s := signerOf(t, 3)
	for size := 1800; size <= 1860; size += 4 {
		p := some(size)
		m := manifestOf(1, 4, p)
		image := s.image(t, m, p)
		for slot := range 2 {
			f := blankOf(t, api.Pages)
			put(t, f, slotSize*slot, image)
			if len(image) <= slotSize {
				seen(t, choose.Look(f, s.pub, 0, slot), m, p)
			} else {
				unseen(t, choose.Look(f, s.pub, 0, slot), api.ErrForm)
			}
			unseen(t, choose.Look(f, s.pub, 0, 1-slot), api.ErrForm)
		}
	}
	if n := len(s.good(t, 1, 1824)); n != 4094 {
		t.Errorf("%d bytes", n)
	}
}

func TestValid(t *testing.T) {
	s, other := signerOf(t, 3), signerOf(t, 4)
	for _, counter := range []int{0, 1, 31, 32, 33, 100, 254, 255} {
		for _, a := range []int{0, 1, 32, 99, 100, 101, 254, 255} {
			b := 255 - a
			f := flashOf(t, s.good(t, a, 8), s.good(t, b, 12))
			var want []int
			if a >= counter {
				want = append(want, 0)
			}
			if b >= counter {
				want = append(want, 1)
			}
			for life := range 5 { // which does not count here
				valid(t, f, chipOf(t, s.pub, life, counter), want...)
			}
			valid(t, f, chipOf(t, other.pub, api.Prod, 0))
		}
	}
}

func TestValidWhereThereIsNothing(t *testing.T) {
	s := signerOf(t, 4)
	good, c := s.good(t, 3, 8), chipOf(t, s.pub, api.Prod, 3)
	for _, f := range []*flash.Flash{nil, blankOf(t, 0), blankOf(t, 15), blankOf(t, api.Pages)} {
		valid(t, f, c)
		valid(t, f, otp.New())
		valid(t, f, nil)
	}
	valid(t, flashOf(t, good, good), nil)
	valid(t, flashOf(t, good, good), otp.New())
	valid(t, flashOf(t, good, good), c, 0, 1)
	valid(t, flashOf(t, nil, good), c, 1)
	valid(t, flashOf(t, good, nil), c, 0)
	f := blankOf(t, 16)
	put(t, f, 0, good)
	valid(t, f, c, 0)
}

// What is locked in the fuses does not change what is booted.
func TestOfALockedChip(t *testing.T) {
	s := signerOf(t, 4)
	f, c := flashOf(t, s.good(t, 2, 8), s.good(t, 3, 8)), chipOf(t, s.pub, api.RMA, 3)
	before := choose.All(f, c)
	c.Seal()
	for i := range 64 {
		answered(t, c.Lock(i), api.OK)
	}
	valid(t, f, c, 1)
	if got := choose.All(f, c); got != before || got.Slot != 1 {
		t.Errorf("%v, not %v", got, before)
	}
}

func TestClear(t *testing.T) {
	f := blankOf(t, api.Pages)
	for page := range api.Pages {
		for _, at := range []int{0, 1, 128, 254, 255} {
			answered(t, f.Turn(256*page+at, 1<<(at%8)), api.OK)
			for slot := range 2 {
				if got := choose.Clear(f, slot); got != (page/16 != slot) {
					t.Fatalf("slot %d with a byte on page %d: %t", slot, page, got)
				}
			}
			answered(t, f.Turn(256*page+at, 1<<(at%8)), api.OK)
		}
	}
	if !choose.Clear(f, 0) || !choose.Clear(f, 1) {
		t.Error("a blank flash is not clear")
	}
	for _, pages := range []int{0, 1, 15, 16, 17, 31, 32, 33, 40, 48, 1024} {
		f := blankOf(t, pages)
		if choose.Clear(f, 0) != (pages >= 16) || choose.Clear(f, 1) != (pages >= 32) {
			t.Errorf("%d pages", pages)
		}
		for _, slot := range noSlots {
			if choose.Clear(f, slot) || choose.Clear(nil, slot) {
				t.Errorf("slot %d is clear", slot)
			}
		}
	}
	if choose.Clear(nil, 0) || choose.Clear(nil, 1) {
		t.Error("nothing is clear")
	}
}

// All is Select of what is there.
func TestAll(t *testing.T) {
	s := signerOf(t, 3)
	good, old := s.good(t, 9, 8), s.good(t, 8, 8)
	images := [][]byte{nil, good, old}
	errors := []api.Errno{api.ErrForm, api.OK, api.ErrOld}
	for i, a := range images {
		for k, b := range images {
			for _, st := range append(states(6), journal.State{Trial: -1}) {
				f := flashOf(t, a, b)
				if st.Seq == 6 {
					withState(t, f, st)
				}
				mem := memOf(t, f)
				for life := range 5 {
					c := chipOf(t, s.pub, life, 9)
					words := c.Words()
					want := selected(life, st, [2]api.Errno{errors[i], errors[k]})
					if got := choose.All(f, c); got != want {
						t.Fatalf("life %d, %v: %v, not %v", life, st, got, want)
					}
					if !bytes.Equal(memOf(t, f), mem) || !slices.Equal(c.Words(), words) {
						t.Fatal("the flash or the chip is changed")
					}
				}
			}
		}
	}
}

func TestAllWhereThereIsNothing(t *testing.T) {
	s := signerOf(t, 3)
	st := journal.State{Seq: 6, Active: 1, Trial: 0, Tries: 2}
	f := flashOf(t, s.good(t, 9, 8), nil)
	withState(t, f, st)
	if got := choose.All(f, nil); got != (choose.Choice{Slot: -1, State: st, E: api.ErrState}) {
		t.Errorf("without a chip: %v", got)
	}
	want := choose.Choice{Slot: -1, State: journal.First(), E: api.ErrNone}
	if got := choose.All(nil, chipOf(t, s.pub, api.Dev, 0)); got != want {
		t.Errorf("without a flash: %v", got)
	}
	want.E = api.ErrState
	if got := choose.All(nil, nil); got != want {
		t.Errorf("without either: %v", got)
	}
}

// A trial that is never confirmed runs MaxTries times, and then the active
// slot runs again.
func TestATrial(t *testing.T) {
	s := signerOf(t, 3)
	f, c := flashOf(t, s.good(t, 1, 8), s.good(t, 2, 8)), chipOf(t, s.pub, api.Prod, 1)
	answered(t, journal.Do(f, c, journal.Next(f, journal.State{Active: 0, Trial: 1})...), api.OK)
	for i, want := range []choose.Choice{
		{Slot: 1, State: journal.State{Seq: 1, Trial: 1, Tries: 1}, Change: true, Trial: true},
		{Slot: 1, State: journal.State{Seq: 2, Trial: 1, Tries: 2}, Change: true, Trial: true},
		{Slot: 1, State: journal.State{Seq: 3, Trial: 1, Tries: 3}, Change: true, Trial: true},
		{Slot: 0, State: journal.State{Seq: 4, Trial: -1}, Change: true},
		{Slot: 0, State: journal.State{Seq: 5, Trial: -1}},
		{Slot: 0, State: journal.State{Seq: 5, Trial: -1}},
	} {
		got := choose.All(f, c)
		if got != want {
			t.Fatalf("boot %d: %v, not %v", i, got, want)
		}
		if got.Change {
			answered(t, journal.Do(f, c, journal.Next(f, got.State)...), api.OK)
		}
	}
}

func TestResultsAreOfTheirOwn(t *testing.T) {
	s := signerOf(t, 3)
	good, pub := s.good(t, 2, 64), bytes.Clone(s.pub)
	f, c := flashOf(t, good, good), chipOf(t, s.pub, api.Prod, 0)
	mem := memOf(t, f)
	a, b := choose.Look(f, pub, 0, 0), choose.Look(f, pub, 0, 0)
	clear(a.Payload[:cap(a.Payload)])
	seen(t, b, manifestOf(2, 60, some(64)), some(64))
	answered(t, f.Erase(0), api.OK)
	seen(t, b, manifestOf(2, 60, some(64)), some(64))
	put(t, f, 0, good[:page])
	l := choose.Valid(f, c)
	clear(l[:cap(l)])
	valid(t, f, c, 0, 1)
	if !bytes.Equal(memOf(t, f), mem) || !bytes.Equal(pub, s.pub) {
		t.Error("the flash or the key is changed")
	}
}
