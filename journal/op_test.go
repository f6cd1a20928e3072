package journal_test

import (
	"bytes"
	"math"
	"math/rand"
	"testing"

	"curtilage/api"
	"curtilage/flash"
	"curtilage/journal"
	"curtilage/otp"
)

// both does an operation and tears it, and holds both against the document.
func both(t *testing.T, f *flash.Flash, c *otp.Chip, o journal.Op, mask []byte) {
	t.Helper()
	w := worldOf(t, f, c)
	torn, chip := f.Copy(), copyOf(t, c)
	want := w.tear(o, mask)
	if got := journal.Tear(torn, chip, o, mask); got != want {
		t.Fatalf("tear of %v: error %d, not %d", o, got, want)
	}
	w.holds(t, torn, chip)
	w = worldOf(t, f, c)
	want = w.do(o)
	if got := journal.Do(f, c, o); got != want {
		t.Fatalf("%v: error %d, not %d", o, got, want)
	}
	w.holds(t, f, c)
}

func copyOf(t *testing.T, c *otp.Chip) *otp.Chip {
	t.Helper()
	d, e := otp.Of(c.Words())
	answered(t, e, api.OK)
	return d
}

func TestErase(t *testing.T) {
	c := otp.New()
	for i := range 4 {
		f := blankOf(t, 4)
		answered(t, f.Write(0, some(4*page)), api.OK)
		want := over(some(4*page), i*page, full(page))
		// What an erasure does not name does not count.
		for _, o := range []journal.Op{{Kind: 1, Page: i}, {Kind: 1, Page: i, At: -9, Bytes: []byte{1}, Word: 99, Value: 3}, {Kind: 1, Page: i, At: 256, Bytes: full(600)}} {
			answered(t, journal.Do(f, c, o), api.OK)
			if !bytes.Equal(memOf(t, f), want) {
				t.Fatalf("page %d is not erased, or more is", i)
			}
			answered(t, f.Write(i*page, some(page)), api.OK)
			answered(t, journal.Do(f, nil, o), api.OK)
		}
	}
	for _, i := range append([]int{4, 5}, outside...) {
		both(t, blankOf(t, 4), c, journal.Op{Kind: 1, Page: i}, full(page))
		both(t, blankOf(t, 4), c, journal.Op{Kind: 1, Page: i, Bytes: []byte{1}}, nil)
	}
}

func TestWrite(t *testing.T) {
	c := otp.New()
	for _, at := range []int{0, 1, 100, 255, 256, 257, -1, math.MinInt, math.MaxInt} {
		for _, n := range []int{0, 1, 2, 32, 156, 157, 255, 256, 257, 512} {
			f := blankOf(t, 3)
			answered(t, f.Write(0, some(2*page)), api.OK)
			for i := range 3 {
				both(t, f, c, journal.Op{Kind: 2, Page: i, At: at, Bytes: some(n), Word: 99, Value: 1}, some(300))
			}
			both(t, f, c, journal.Op{Kind: 2, Page: 0, At: at, Bytes: make([]byte, n)}, some(300)[9:])
		}
	}
	for _, i := range append([]int{3, 4}, outside...) {
		for _, p := range [][]byte{nil, {0}, {0xff}, full(257)} {
			both(t, blankOf(t, 3), c, journal.Op{Kind: 2, Page: i, Bytes: p}, full(page))
		}
	}
}

// Writing no bytes is no erasure.
func TestWriteOfNothing(t *testing.T) {
	for _, none := range [][]byte{nil, {}} {
		for _, at := range []int{0, 5, 256, 257, -1, math.MaxInt, math.MinInt} {
			f := blankOf(t, 2)
			answered(t, f.Write(0, some(2*page)), api.OK)
			for i := range 2 {
				o := journal.Op{Kind: 2, Page: i, At: at, Bytes: none}
				answered(t, journal.Do(f, nil, o), api.OK)
				answered(t, journal.Tear(f, nil, o, full(page)), api.OK)
				answered(t, journal.Tear(f, nil, o, some(page)), api.OK)
			}
			if !bytes.Equal(memOf(t, f), some(2*page)) {
				t.Fatal("the flash is changed")
			}
			answered(t, journal.Do(f, nil, journal.Op{Kind: 2, Page: 2, At: at, Bytes: none}), api.ErrMap)
		}
	}
}

// A bit that is not set cannot be set by writing, and then nothing is written.
func TestWriteThatIsRefused(t *testing.T) {
	f := blankOf(t, 2)
	answered(t, f.Write(page+100, []byte{0x7f}), api.OK)
	mem := memOf(t, f)
	for _, p := range [][]byte{{0x80}, {0xff}, append([]byte{0x80}, make([]byte, 50)...)} {
		o := journal.Op{Kind: 2, Page: 1, At: 100, Bytes: p}
		answered(t, journal.Do(f, nil, o), api.ErrState)
		answered(t, journal.Tear(f, nil, o, full(page)), api.ErrState)
		o = journal.Op{Kind: 2, Page: 1, Bytes: append(make([]byte, 100), p...)}
		answered(t, journal.Do(f, nil, o), api.ErrState)
		answered(t, journal.Tear(f, nil, o, full(page)), api.ErrState)
	}
	if !bytes.Equal(memOf(t, f), mem) {
		t.Error("the flash is changed")
	}
	answered(t, journal.Do(f, nil, journal.Op{Kind: 2, Page: 1, At: 100, Bytes: []byte{0x7e, 0}}), api.OK)
	if !bytes.Equal(memOf(t, f), over(mem, page+100, []byte{0x7e, 0})) {
		t.Error("other bytes")
	}
}

func TestBurn(t *testing.T) {
	f := blankOf(t, 1)
	for i := range 64 {
		c := otp.New()
		for _, v := range []uint32{0, 5, 4, 0x80000005, 5, math.MaxUint32, 0} {
			both(t, f, c, journal.Op{Kind: 3, Word: i, Value: v, Page: -5, At: 300, Bytes: full(700)}, some(4))
			both(t, blankOf(t, 0), c, journal.Op{Kind: 3, Word: i, Value: v}, nil)
		}
	}
	for _, i := range append([]int{64, 65}, outside[:8]...) {
		both(t, f, otp.New(), journal.Op{Kind: 3, Word: i, Value: 1}, full(4))
	}
	c := otp.New()
	c.Seal()
	answered(t, journal.Do(nil, c, journal.Op{Kind: 3, Word: 30, Value: 9}), api.OK) // a locked word may be programmed
	if c.Words()[30] != 9 {
		t.Errorf("%x", c.Words())
	}
}

// The first four bytes of the mask count, and those that it lacks are 0.
func TestTearOfABurn(t *testing.T) {
	for _, k := range []struct {
		mask []byte
		want uint32
	}{
		{nil, 0}, {[]byte{}, 0},
		{[]byte{0xa1}, 0xa1000000},
		{[]byte{0xa1, 0xb2}, 0xa1b20000},
		{[]byte{0xa1, 0xb2, 0xc3}, 0xa1b2c300},
		{[]byte{0xa1, 0xb2, 0xc3, 0xd4}, 0xa1b2c3d4},
		{[]byte{0xa1, 0xb2, 0xc3, 0xd4, 0xff}, 0xa1b2c3d4},
		{append([]byte{0, 0, 0, 1}, full(300)...), 1},
	} {
		c := otp.New()
		answered(t, journal.Tear(nil, c, journal.Op{Kind: 3, Word: 40, Value: math.MaxUint32}, k.mask), api.OK)
		if c.Words()[40] != k.want {
			t.Errorf("%x: %x", k.mask, c.Words()[40])
		}
		c = otp.New()
		answered(t, c.Program(40, 2), api.OK)
		answered(t, journal.Tear(nil, c, journal.Op{Kind: 3, Word: 40, Value: 0x0f0f0f0f}, k.mask), api.OK)
		if c.Words()[40] != k.want&0x0f0f0f0f|2 {
			t.Errorf("%x: %x", k.mask, c.Words()[40])
		}
		answered(t, journal.Tear(nil, c, journal.Op{Kind: 3, Word: 40, Value: 1}, k.mask), api.ErrFuse)
		answered(t, journal.Tear(nil, c, journal.Op{Kind: 3, Word: 64}, k.mask), api.ErrMap)
		answered(t, journal.Tear(nil, c, journal.Op{Kind: 3, Word: -1}, k.mask), api.ErrMap)
	}
}

func TestKindsThatThereAreNot(t *testing.T) {
	f, c := blankOf(t, 2), otp.New()
	w := worldOf(t, f, c)
	for kind := range 256 {
		if kind >= 1 && kind <= 3 {
			continue
		}
		for _, o := range []journal.Op{{}, {Bytes: []byte{0}, Value: 1}, {Page: 99, At: 999, Bytes: full(999), Word: 99}} {
			o.Kind = byte(kind)
			answered(t, journal.Do(f, c, o), api.ErrArg)
			answered(t, journal.Do(nil, nil, o), api.ErrArg)
			answered(t, journal.Tear(f, c, o, full(page)), api.ErrArg)
			answered(t, journal.Tear(nil, nil, o, nil), api.ErrArg)
		}
	}
	w.holds(t, f, c)
}

func TestWithoutAFlashOrAChip(t *testing.T) {
	f, c := blankOf(t, 1), otp.New()
	for _, o := range []journal.Op{{Kind: 1}, {Kind: 1, Page: -1}, {Kind: 2}, {Kind: 2, Bytes: []byte{0}}, {Kind: 2, Page: 9, At: 999, Bytes: []byte{0}}} {
		answered(t, journal.Do(nil, c, o), api.ErrNone)
		answered(t, journal.Tear(nil, c, o, full(page)), api.ErrNone)
	}
	for _, o := range []journal.Op{{Kind: 3}, {Kind: 3, Word: -1}, {Kind: 3, Word: 1, Value: 5}} {
		answered(t, journal.Do(f, nil, o), api.ErrNone)
		answered(t, journal.Tear(f, nil, o, full(page)), api.ErrNone)
	}
	answered(t, journal.Do(nil, nil), api.OK)
	answered(t, journal.Do(f, c), api.OK)
}

// What comes before an error is done, and what comes after is not.
func TestUpToTheFirstError(t *testing.T) {
	good := []journal.Op{
		{Kind: 2, Page: 0, At: 3, Bytes: []byte{1, 2}},
		{Kind: 3, Word: 2, Value: 7},
		{Kind: 1, Page: 1},
		{Kind: 2, Page: 1, Bytes: []byte{0x55}},
		{Kind: 2, Page: 1, Bytes: []byte{0x50}},
	}
	bad := map[api.Errno]journal.Op{
		api.ErrArg:   {Kind: 4},
		api.ErrMap:   {Kind: 1, Page: 2},
		api.ErrState: {Kind: 2, Page: 0, At: 0, Bytes: []byte{0xff}},
		api.ErrFuse:  {Kind: 3, Word: 1, Value: 4},
	}
	for want, o := range bad {
		for i := range len(good) + 1 {
			f, c := blankOf(t, 2), otp.New()
			answered(t, f.Write(0, make([]byte, 3)), api.OK)
			answered(t, f.Write(page, some(page)), api.OK)
			answered(t, c.Program(1, 3), api.OK)
			w := worldOf(t, f, c)
			for _, x := range good[:i] {
				answered(t, w.do(x), api.OK)
			}
			l := append(append(append([]journal.Op{}, good[:i]...), o), good[i:]...)
			answered(t, journal.Do(f, c, l...), want)
			w.holds(t, f, c)
		}
	}
}

// Each bit of a torn page is the old one or the new one, as the mask has it.
func TestTear(t *testing.T) {
	masks := [][]byte{nil, {}, {0x0f}, some(31), some(32), some(255), some(256), some(257), full(256), full(900), make([]byte, 256)}
	c := otp.New()
	for i := range 3 {
		for _, mask := range masks {
			f := blankOf(t, 3)
			answered(t, f.Write(0, some(3*page)), api.OK)
			both(t, f.Copy(), c, journal.Op{Kind: 1, Page: i}, mask)
			p := some(3 * page)[i*page+17:][:100]
			for n := range p {
				p[n] &= byte(n)
			}
			both(t, f.Copy(), c, journal.Op{Kind: 2, Page: i, At: 17, Bytes: p}, mask)
		}
	}
}

// Whatever is done and torn in turn, all is as the document has it.
func TestManyOperations(t *testing.T) {
	r := rand.New(rand.NewSource(22))
	seen := map[api.Errno]int{}
	for range 300 {
		f, c := blankOf(t, 3), otp.New()
		w := worldOf(t, f, c)
		for range 40 {
			o := w.random(r)
			mask := make([]byte, r.Intn(page+10))
			r.Read(mask)
			var got, want api.Errno
			if r.Intn(2) == 0 {
				got, want = journal.Do(f, c, o), w.do(o)
			} else {
				got, want = journal.Tear(f, c, o, mask), w.tear(o, mask)
			}
			if got != want {
				t.Fatalf("%v: error %d, not %d", o, got, want)
			}
			w.holds(t, f, c)
			seen[got]++
		}
	}
	if seen[api.OK] < 3000 || seen[api.ErrState] < 100 || seen[api.ErrMap] < 100 || seen[api.ErrFuse] < 100 || seen[api.ErrArg] < 100 {
		t.Errorf("%v", seen)
	}
}

// random returns an operation that could often be done.
func (w *world) random(r *rand.Rand) journal.Op {
	o := journal.Op{
		Kind:  byte(1 + r.Intn(3)),
		Page:  r.Intn(3),
		At:    r.Intn(250) - 5,
		Bytes: make([]byte, r.Intn(15)*r.Intn(15)),
		Word:  []int{-1, 0, 1, 2, 3, 63, 64}[r.Intn(7)],
		Value: r.Uint32(),
	}
	switch r.Intn(20) {
	case 0:
		o.Kind = byte(r.Intn(256))
	case 1:
		o.Page = r.Intn(7) - 2
	}
	for i := range o.Bytes {
		at := o.Page*page + o.At + i
		o.Bytes[i] = byte(r.Intn(256))
		if at >= 0 && at < len(w.mem) && r.Intn(60) > 0 {
			o.Bytes[i] &= w.mem[at]
		}
	}
	if o.Word >= 0 && o.Word < 64 && r.Intn(3) > 0 {
		o.Value |= w.words[o.Word]
	}
	return o
}
