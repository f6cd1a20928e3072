package engine_test

import (
	"bytes"
	"encoding/binary"
	"math"
	"math/rand"
	"testing"

	"curtilage/api"
	"curtilage/engine"
	"curtilage/flash"
	"curtilage/otp"
)

// edges are addresses around the bounds of the regions, and some within them.
func edges() []uint32 {
	l := []uint32{0, 1, 3, 4, 0x7fffffff, 0x80000000, 0x90000000, 0xa0000000, math.MaxUint32 - 3, math.MaxUint32}
	for _, x := range areas {
		for d := -8; d <= 8; d++ {
			l = append(l, x.base+uint32(d), x.base+uint32(x.size/2+d), x.base+uint32(x.size+d))
		}
	}
	return l
}

// counts are how many bytes are loaded and stored.
var counts = []int{1, 2, 3, 4, 5, 7, 8, 16, 32, 33, 64, 65, 255, 256, 257, 1024, 4095, 4096, 4097, 8192, 10240, 10241}

// loads holds what Load answers.
func loads(t *testing.T, s *engine.Space, w *world, who int, at uint32, n int) {
	t.Helper()
	want, wantE := w.load(who, at, n)
	if got, e := s.Load(who, at, n); e != wantE || !bytes.Equal(got, want) {
		t.Errorf("stage %d, master %d, %d bytes at %x: error %d, not %d, or other bytes", w.stage, who, n, at, e, wantE)
	}
}

func TestNewSpace(t *testing.T) {
	f, e := flash.New(40)
	must(t, e)
	c := otp.New()
	s := engine.NewSpace(f, c)
	if s.Flash != f || s.Chip != c || s.Stage != 0 || s.RAM != [8192]byte{} || s.Port != [64]byte{} {
		t.Error("a new space is not blank")
	}
	// The flash and the fuses are used as they are at the time.
	must(t, f.Write(5, []byte{1, 2, 3}))
	must(t, c.Program(3, 0x01020304))
	if p, e := s.Load(api.ROM, 0x10000004, 5); !bytes.Equal(p, []byte{255, 1, 2, 3, 255}) || e != api.OK {
		t.Errorf("error %d, %x", e, p)
	}
	if p, e := s.Load(api.ROM, 0x6000000b, 6); !bytes.Equal(p, []byte{0, 1, 2, 3, 4, 0}) || e != api.OK {
		t.Errorf("error %d, %x", e, p)
	}
	must(t, s.Store(api.ROM, 0x20000000, []byte{1}))
	if other := engine.NewSpace(f, c); other.RAM != [8192]byte{} {
		t.Error("two spaces have one RAM")
	}
	s = engine.NewSpace(nil, nil)
	if s.Flash != nil || s.Chip != nil {
		t.Error("something comes of nothing")
	}
	must(t, s.Store(api.ROM, 0x20000000, []byte{1}))
}

// Every stage, master and bound.
func TestLoad(t *testing.T) {
	for stage := range 3 {
		w := newWorld(stage, 40)
		s := w.space(t)
		for who := range 4 {
			for _, at := range edges() {
				for _, n := range counts {
					loads(t, s, w, who, at, n)
				}
			}
			for _, x := range areas {
				loads(t, s, w, who, x.base, x.size)
				loads(t, s, w, who, x.base, x.size+1)
				loads(t, s, w, who, x.base+1, x.size-1)
				loads(t, s, w, who, x.base+1, x.size)
			}
		}
		same(t, s, w)
	}
}

// Every byte of every region, one by one.
func TestLoadEveryByte(t *testing.T) {
	w := newWorld(0, 40)
	s := w.space(t)
	for _, x := range areas {
		for i := range uint32(x.size) {
			loads(t, s, w, api.ROM, x.base+i, 1)
		}
	}
}

func TestLoadNothing(t *testing.T) {
	for _, stage := range []int{0, 1, 2, 3, -1} {
		w := newWorld(stage, 40)
		s := w.space(t)
		for _, who := range append([]int{0, 1, 2, 3}, strangers...) {
			for _, at := range edges() {
				if p, e := s.Load(who, at, 0); len(p) != 0 || e != api.OK {
					t.Errorf("stage %d, master %d, at %x: error %d, %x", stage, who, at, e, p)
				}
				answered(t, s.Store(who, at, nil), api.OK)
				answered(t, s.Store(who, at, []byte{}), api.OK)
				for _, n := range []int{-1, -2, -4096, math.MinInt32, math.MinInt} {
					if p, e := s.Load(who, at, n); len(p) != 0 || e != api.ErrArg {
						t.Errorf("%d bytes: error %d, %x", n, e, p)
					}
				}
			}
		}
		same(t, s, w)
	}
}

func TestLoadTooMuch(t *testing.T) {
	w := newWorld(0, 40)
	s := w.space(t)
	for _, x := range areas {
		for _, n := range []int{10241, 1 << 20, math.MaxInt32, 1 << 32, 1<<32 + 1, math.MaxInt - 1, math.MaxInt} {
			for _, at := range []uint32{x.base, x.base + 1, x.base + uint32(x.size) - 1} {
				if p, e := s.Load(api.ROM, at, n); len(p) != 0 || e != api.ErrMap {
					t.Errorf("%d bytes at %x: error %d", n, at, e)
				}
			}
		}
		if p, e := s.Load(api.Core, x.base, math.MaxInt); len(p) != 0 || e != api.ErrDenied {
			t.Errorf("at %x: error %d", x.base, e)
		}
	}
	if p, e := s.Load(api.ROM, 0, math.MaxInt); len(p) != 0 || e != api.ErrMap {
		t.Errorf("error %d", e)
	}
}

func TestStrangers(t *testing.T) {
	w := newWorld(0, 40)
	s := w.space(t)
	for _, who := range strangers {
		loads(t, s, w, who, 0x20000000, 1)
		loads(t, s, w, who, 0, 1)
		answered(t, s.Store(who, 0x20000000, []byte{0}), api.ErrArg)
		answered(t, s.Store(who, 0, []byte{0}), api.ErrArg)
	}
	for _, stage := range append([]int{3}, strangers...) {
		s.Stage, w.stage = stage, stage
		for who := range 4 {
			loads(t, s, w, who, 0x20000000, 1)
			loads(t, s, w, who, 0, 5000)
			answered(t, s.Store(who, 0x20000000, []byte{0}), api.ErrArg)
		}
		for _, at := range []uint32{0x20000000, 0x20000001, 0} {
			if v, e := s.Fetch(at); v != 0 || e != api.ErrArg {
				t.Errorf("stage %d: error %d, %x", stage, e, v)
			}
		}
	}
	same(t, s, w)
}

// Each locked word hides its own bytes, and no others.
func TestLockedWords(t *testing.T) {
	for i := range 64 {
		w := newWorld(0, 40)
		w.locked[i] = true
		s := w.space(t)
		for off := range 256 {
			for _, n := range []int{1, 2, 3, 4, 5, 8, 64, 256} {
				loads(t, s, w, api.ROM, 0x60000000+uint32(off), n)
			}
		}
	}
	w := newWorld(2, 40)
	s := w.space(t)
	s.Chip.Seal()
	for i := 27; i < 63; i++ {
		w.locked[i] = true
	}
	for off := range 256 {
		for _, who := range []int{api.Core, api.Host, api.DMA} {
			for _, n := range []int{1, 4, 5, 9, 200} {
				loads(t, s, w, who, 0x60000000+uint32(off), n)
			}
		}
	}
	same(t, s, w)
}

// Every stage, master and bound: what is stored is there, and nothing else.
func TestStore(t *testing.T) {
	for stage := range 3 {
		w := newWorld(stage, 40)
		for i := range w.flash {
			w.flash[i] = 0xff
		}
		w.fuses = [64]uint32{}
		s := w.space(t)
		for who := range 4 {
			for _, at := range edges() {
				for _, n := range counts {
					p := some(n + who)[who:]
					if got, want := s.Store(who, at, p), w.store(who, at, p); got != want {
						t.Errorf("stage %d, master %d, %d bytes at %x: error %d, not %d", stage, who, n, at, got, want)
					}
					if !bytes.Equal(p, some(n + who)[who:]) {
						t.Error("the bytes that are stored have changed")
					}
				}
				same(t, s, w)
			}
		}
	}
}

func TestStoreInTheFlash(t *testing.T) {
	w := newWorld(0, 40)
	for i := range w.flash {
		w.flash[i] = 0xff
	}
	s := w.space(t)
	for _, c := range []struct {
		at   uint32
		p    []byte
		want api.Errno
	}{
		{0x10000000, some(600), api.OK},
		{0x10000000, some(600), api.OK},
		{0x10000000, make([]byte, 10), api.OK},
		{0x10000005, []byte{0, 0, 1}, api.ErrState},
		{0x100027ff, []byte{5}, api.OK},
		{0x100027ff, []byte{2}, api.ErrState},
		{0x100027ff, []byte{4, 0}, api.ErrMap},
		{0x10002800, []byte{4}, api.ErrMap},
		{0x10000000, make([]byte, 10241), api.ErrMap},
		{0x10000000, make([]byte, 10240), api.OK},
	} {
		answered(t, s.Store(api.ROM, c.at, c.p), c.want)
		answered(t, w.store(api.ROM, c.at, c.p), c.want)
		same(t, s, w)
	}
}

// A flash may have fewer or more pages than its region.
func TestOtherFlashes(t *testing.T) {
	for _, pages := range []int{0, 1, 39, 41, 100} {
		w := newWorld(0, pages)
		s := w.space(t)
		for _, off := range []int{0, 1, 255, 256, 9983, 9984, 10239, 10240} {
			for _, n := range []int{1, 2, 255, 256, 257, 10239, 10240} {
				loads(t, s, w, api.ROM, 0x10000000+uint32(off), n)
				p := make([]byte, n)
				answered(t, s.Store(api.ROM, 0x10000000+uint32(off), p), w.store(api.ROM, 0x10000000+uint32(off), p))
			}
		}
		same(t, s, w)
	}
}

func TestStoreInTheFuses(t *testing.T) {
	for off := range 256 {
		for n := 1; n <= 256; n += 1 + n/8 {
			w := newWorld(0, 40)
			w.fuses = [64]uint32{}
			s := w.space(t)
			at := 0x60000000 + uint32(off)
			answered(t, s.Store(api.ROM, at, some(n)), w.store(api.ROM, at, some(n)))
			same(t, s, w)
		}
	}
	w := newWorld(0, 40)
	w.fuses = [64]uint32{}
	s := w.space(t)
	answered(t, s.Store(api.ROM, 0x60000004, []byte{1, 2, 3, 4, 5, 6, 7, 8}), api.OK)
	if words := s.Chip.Words(); words[0] != 0 || words[1] != 0x01020304 || words[2] != 0x05060708 || words[3] != 0 {
		t.Errorf("%x", words[:4])
	}
}

// The words before the first error are programmed, those behind it are not;
// also locked ones are programmed.
func TestStoreInTheFusesUpToAnError(t *testing.T) {
	for bad := range 9 {
		w := newWorld(0, 40)
		w.fuses = [64]uint32{}
		if bad < 8 {
			w.fuses[10+bad] = 1
		}
		w.locked[12] = true
		s := w.space(t)
		p := bytes.Repeat([]byte{7, 6, 5, 4}, 8)
		want := api.ErrFuse
		if bad == 8 {
			want = api.OK
		}
		answered(t, s.Store(api.ROM, 0x60000028, p), want)
		answered(t, w.store(api.ROM, 0x60000028, p), want)
		for i := range 8 {
			if got := s.Chip.Words()[10+i]; i < bad && got != 0x07060504 || i > bad && got != 0 {
				t.Errorf("word %d: %x", 10+i, got)
			}
		}
		same(t, s, w)
	}
}

// Of several errors of Store, the first one counts.
func TestTheOrderOfStoresErrors(t *testing.T) {
	w := newWorld(0, 40)
	s := w.space(t)
	for _, c := range []struct {
		who  int
		at   uint32
		n    int
		want api.Errno
	}{
		{7, 0x70000000, 1, api.ErrArg},
		{api.Core, 0x70000000, 1, api.ErrMap},
		{api.Core, 0x600000ff, 300, api.ErrDenied},
		{api.ROM, 0x600000fd, 5, api.ErrMap},
		{api.ROM, 0x600000fc, 5, api.ErrMap},
		{api.ROM, 0x600000fd, 3, api.ErrAlign},
		{api.ROM, 0x600000fc, 3, api.ErrAlign},
		{api.ROM, 0x600000f9, 4, api.ErrAlign},
		{api.ROM, 0x600000fc, 4, api.ErrFuse},
		{api.DMA, 0x100027ff, 2, api.ErrDenied},
		{api.ROM, 0x20000fff, 2, api.ErrMap},
		{api.ROM, 0x20001fff, 2, api.ErrMap},
		{api.ROM, 0x4000003f, 2, api.ErrMap},
	} {
		answered(t, s.Store(c.who, c.at, make([]byte, c.n)), c.want)
		same(t, s, w)
	}
}

func TestMemoryIsNotShared(t *testing.T) {
	w := newWorld(0, 40)
	s := w.space(t)
	for _, x := range areas {
		p, e := s.Load(api.ROM, x.base, x.size/2)
		must(t, e)
		for i := range p[:cap(p)] {
			p[:cap(p)][i] ^= 0xff
		}
	}
	same(t, s, w)
	p := some(64)
	must(t, s.Store(api.ROM, 0x20000ff0, p[:16]))
	must(t, s.Store(api.ROM, 0x40000000, p))
	must(t, w.store(api.ROM, 0x20000ff0, p[:16]))
	must(t, w.store(api.ROM, 0x40000000, p))
	clear(p)
	same(t, s, w)
}

// Every stage, every address around the bounds, aligned or not.
func TestFetch(t *testing.T) {
	for _, stage := range []int{0, 1, 2, 3, -1} {
		w := newWorld(stage, 40)
		s := w.space(t)
		for at := uint32(0x20000000); at < 0x20001000 && stage > 0; at += 4 {
			want, wantE := w.fetch(at)
			if got, e := s.Fetch(at); got != want || e != wantE {
				t.Errorf("stage %d, at %x: error %d, not %d, %x, not %x", stage, at, e, wantE, got, want)
			}
		}
		for _, at := range edges() {
			want, wantE := w.fetch(at)
			if got, e := s.Fetch(at); got != want || e != wantE {
				t.Errorf("stage %d, at %x: error %d, not %d, %x, not %x", stage, at, e, wantE, got, want)
			}
		}
		same(t, s, w)
	}
	s := newWorld(1, 40).space(t)
	binary.LittleEndian.PutUint32(s.RAM[8:], 0x00100093)
	if v, e := s.Fetch(0x20000008); v != 0x00100093 || e != api.OK {
		t.Errorf("error %d, %x", e, v)
	}
}

func TestNilSpace(t *testing.T) {
	var s *engine.Space
	for _, n := range []int{-1, 0, 1, 5000} {
		if p, e := s.Load(api.ROM, 0x20000000, n); len(p) != 0 || e != api.ErrNone {
			t.Errorf("%d bytes: error %d, %x", n, e, p)
		}
	}
	answered(t, s.Store(api.ROM, 0x20000000, nil), api.ErrNone)
	answered(t, s.Store(9, 0, []byte{1}), api.ErrNone)
	for _, at := range []uint32{0x20000000, 0x20000001, 0} {
		if v, e := s.Fetch(at); v != 0 || e != api.ErrNone {
			t.Errorf("error %d, %x", e, v)
		}
	}
}

// fit makes p one that the flash and the fuses can take.
func fit(w *world, at uint32, p []byte) {
	for i := range p {
		switch region, offset := where(uint64(at) + uint64(i)); {
		case region == 3:
			p[i] &= w.flash[offset]
		case region == 5:
			p[i] |= byte(w.fuses[offset/4] >> (24 - 8*(offset%4)))
		}
	}
}

// Long sequences of loads and stores, by all masters in all stages.
func TestManyAccesses(t *testing.T) {
	for seed := range int64(20) {
		r := rand.New(rand.NewSource(seed))
		w := newWorld(0, 40)
		s := w.space(t)
		for range 400 {
			x := areas[r.Intn(len(areas))]
			at := x.base + uint32(r.Intn(x.size+8)) - 4
			if r.Intn(2) == 0 {
				at &^= 3
			}
			who, n := r.Intn(4), r.Intn(1<<r.Intn(10))
			switch r.Intn(8) {
			case 0:
				s.Stage = r.Intn(3)
				w.stage = s.Stage
			case 1:
				must(t, s.Chip.Lock(int(at/4)%64))
				w.locked[at/4%64] = true
			case 2, 3, 4:
				p := make([]byte, n)
				r.Read(p)
				if r.Intn(2) == 0 {
					fit(w, at, p)
				}
				if got, want := s.Store(who, at, p), w.store(who, at, p); got != want {
					t.Errorf("stage %d, master %d, %d bytes at %x: error %d, not %d", w.stage, who, n, at, got, want)
				}
			default:
				loads(t, s, w, who, at, n)
			}
			same(t, s, w)
			if t.Failed() {
				t.FailNow()
			}
		}
	}
}
