package fuse_test

import (
	"math"
	"math/rand"
	"slices"
	"testing"

	"curtilage/api"
	"curtilage/fuse"
)

// some returns n words without a short period.
func some(n int) []uint32 {
	l := make([]uint32, n)
	x := uint32(n)*2654435761 + 1
	for i := range l {
		x = x*1664525 + 1013904223
		l[i] = x ^ x>>15
	}
	return l
}

func arrayOf(t *testing.T, words ...uint32) *fuse.Array {
	t.Helper()
	a, e := fuse.Of(words)
	if e != api.OK || a == nil {
		t.Fatalf("%d words: error %d", len(words), e)
	}
	return a
}

// holds holds that an array has these words.
func holds(t *testing.T, a *fuse.Array, want ...uint32) {
	t.Helper()
	if got := a.Words(); !slices.Equal(got, want) || a.Len() != len(want) {
		t.Errorf("%x, not %x", got, want)
	}
}

// answered holds that a call has answered so.
func answered(t *testing.T, got, want api.Errno) {
	t.Helper()
	if got != want {
		t.Errorf("error %d, not %d", got, want)
	}
}

// outside returns numbers of no word, or of no bit, of n that there are.
func outside(n int) []int {
	return []int{n, n + 1, n + 4096, 1 << 32, 1<<32 + n, math.MaxInt32, math.MaxInt - 1, math.MaxInt,
		-1, -2, -31, -32, -33, -n, -n - 1, math.MinInt32, -1 << 32, math.MinInt, math.MinInt + 32}
}

func TestTheExample(t *testing.T) {
	a, e := fuse.New(1)
	answered(t, e, api.OK)
	answered(t, a.Program(0, 5), api.OK)
	answered(t, a.Program(0, 4), api.ErrFuse)
	holds(t, a, 5)
	answered(t, a.Cut(0, 15, 8), api.OK)
	holds(t, a, 13)
}

func TestNew(t *testing.T) {
	for _, n := range []int{0, 1, 2, 64, 4095, 4096} {
		a, e := fuse.New(n)
		answered(t, e, api.OK)
		holds(t, a, make([]uint32, n)...)
		for i := range n {
			if v, e := a.Read(i); v != 0 || e != api.OK || a.Locked(i) {
				t.Fatalf("word %d of %d: %x, error %d, locked %t", i, n, v, e, a.Locked(i))
			}
		}
	}
	for _, n := range []int{-1, -2, -4096, math.MinInt32, math.MinInt, 4097, 4098, 8192, 1 << 32, math.MaxInt} {
		if a, e := fuse.New(n); a != nil || e != api.ErrArg {
			t.Errorf("%d words: error %d, %t", n, e, a == nil)
		}
	}
}

func TestOf(t *testing.T) {
	for _, n := range []int{0, 1, 2, 64, 4095, 4096} {
		a := arrayOf(t, some(n)...)
		holds(t, a, some(n)...)
		for i, want := range some(n) {
			if v, e := a.Read(i); v != want || e != api.OK || a.Locked(i) {
				t.Fatalf("word %d of %d: %x, error %d, locked %t", i, n, v, e, a.Locked(i))
			}
		}
	}
	for _, n := range []int{4097, 4098, 10000} {
		if a, e := fuse.Of(some(n)); a != nil || e != api.ErrArg {
			t.Errorf("%d words: error %d, %t", n, e, a == nil)
		}
	}
	holds(t, arrayOf(t))
	if a, e := fuse.Of([]uint32{}); a == nil || e != api.OK || a.Len() != 0 {
		t.Errorf("no words: error %d", e)
	}
}

func TestWordsThatThereAreNot(t *testing.T) {
	for _, n := range []int{0, 1, 5, 64} {
		a := arrayOf(t, some(n)...)
		for _, i := range outside(n) {
			if v, e := a.Read(i); v != 0 || e != api.ErrMap {
				t.Errorf("word %d of %d: %x, error %d", i, n, v, e)
			}
			for _, v := range []uint32{0, 1, math.MaxUint32} {
				answered(t, a.Program(i, v), api.ErrMap)
				answered(t, a.Cut(i, v, v), api.ErrMap)
				answered(t, a.Cut(i, v, 0), api.ErrMap)
			}
			answered(t, a.Lock(i), api.ErrMap)
			if a.Locked(i) {
				t.Errorf("word %d of %d is locked", i, n)
			}
		}
		holds(t, a, some(n)...)
		for i := range n {
			if a.Locked(i) {
				t.Errorf("word %d of %d is locked", i, n)
			}
		}
	}
}

// Of all bits of a word, two at a time: the old, the new and the torn ones.
func TestEveryProgramAndEveryCut(t *testing.T) {
	for shift := 0; shift < 32; shift += 2 {
		for n := range uint32(64) {
			old, v, got := n&3<<shift, n>>2&3<<shift, n>>4&3<<shift
			a := arrayOf(t, 7, old, 9)
			b := a.Copy()
			if old&^v != 0 {
				answered(t, a.Program(1, v), api.ErrFuse)
				answered(t, b.Cut(1, v, got), api.ErrFuse)
				holds(t, a, 7, old, 9)
				holds(t, b, 7, old, 9)
				continue
			}
			answered(t, a.Program(1, v), api.OK)
			answered(t, b.Cut(1, v, got), api.OK)
			holds(t, a, 7, v, 9)
			holds(t, b, 7, old|v&got, 9)
			if w, e := a.Read(1); w != v || e != api.OK {
				t.Errorf("%x, error %d", w, e)
			}
		}
	}
}

func TestCutOfWholeWords(t *testing.T) {
	for _, l := range []struct{ old, v, got, want uint32 }{
		{0, math.MaxUint32, 0, 0},
		{0, math.MaxUint32, math.MaxUint32, math.MaxUint32},
		{0, math.MaxUint32, 0x80000001, 0x80000001},
		{0xf0, 0xff, 0, 0xf0},      // what was set stays
		{0xf0, 0xff, 0xf0, 0xf0},   // and is not what is new
		{0xf0, 0xff, 0xff05, 0xf5}, // what v lacks is not set
		{0xf0, 0xf0, 0xffff, 0xf0}, // nothing is new
		{0x0f, 0xffff, 0xff00, 0xff0f},
	} {
		a := arrayOf(t, l.old)
		answered(t, a.Cut(0, l.v, l.got), api.OK)
		holds(t, a, l.want)
		answered(t, a.Program(0, l.v), api.OK) // may be tried again
		holds(t, a, l.v)
	}
}

func TestLock(t *testing.T) {
	a := arrayOf(t, 1, 2, 3)
	for range 2 {
		answered(t, a.Lock(1), api.OK)
		for i, want := range []uint32{1, 2, 3} {
			v, e := a.Read(i)
			switch {
			case i == 1 && (v != 0 || e != api.ErrLock), i != 1 && (v != want || e != api.OK):
				t.Errorf("word %d: %x, error %d", i, v, e)
			}
			if a.Locked(i) != (i == 1) {
				t.Errorf("word %d is locked: %t", i, a.Locked(i))
			}
		}
	}
	holds(t, a, 1, 2, 3)
}

func TestLockedWordsAreProgrammed(t *testing.T) {
	a := arrayOf(t, 1, 1, 1)
	answered(t, a.Lock(1), api.OK)
	answered(t, a.Program(1, 0), api.ErrFuse)
	answered(t, a.Cut(1, 2, 2), api.ErrFuse)
	holds(t, a, 1, 1, 1)
	answered(t, a.Program(1, 3), api.OK)
	holds(t, a, 1, 3, 1)
	answered(t, a.Cut(1, 15, 8), api.OK)
	holds(t, a, 1, 11, 1)
	answered(t, a.Set(32+4), api.OK)
	holds(t, a, 1, 27, 1)
	if v, e := a.Read(1); v != 0 || e != api.ErrLock || !a.Locked(1) {
		t.Errorf("%x, error %d", v, e)
	}
}

func TestCopy(t *testing.T) {
	a := arrayOf(t, 1, 2, 3)
	answered(t, a.Lock(0), api.OK)
	answered(t, a.Lock(2), api.OK)
	b := a.Copy()
	holds(t, b, 1, 2, 3)
	for i := range 3 {
		if v, e := b.Read(i); v != uint32(i+1) || e != api.OK || b.Locked(i) {
			t.Errorf("word %d of the copy: %x, error %d, locked %t", i, v, e, b.Locked(i))
		}
	}
	answered(t, b.Lock(1), api.OK)
	answered(t, b.Program(1, 6), api.OK)
	answered(t, b.Set(31), api.OK)
	holds(t, a, 1, 2, 3)
	answered(t, a.Program(2, 7), api.OK)
	holds(t, b, 1|1<<31, 6, 3)
	if a.Locked(1) || !a.Locked(0) || !a.Locked(2) || b.Locked(0) || b.Locked(2) {
		t.Error("the locks of a copy are those of the array")
	}
	holds(t, arrayOf(t).Copy())
}

func TestSetOfEachBit(t *testing.T) {
	for i := range 96 {
		a, want := arrayOf(t, 0, 0, 0), make([]uint32, 3)
		want[i/32] = uint32(1) << (i % 32)
		for range 2 {
			answered(t, a.Set(i), api.OK)
			holds(t, a, want...)
		}
	}
	a := arrayOf(t, 1, 0, 0)
	answered(t, a.Set(), api.OK)
	holds(t, a, 1, 0, 0)
	answered(t, a.Set(95, 1, 33, 1, 0), api.OK)
	holds(t, a, 3, 2, 1<<31)
}

func TestSetOfBitsThatThereAreNot(t *testing.T) {
	for _, n := range []int{0, 1, 3} {
		for _, bit := range outside(32 * n) {
			a := arrayOf(t, make([]uint32, n)...)
			l := [][]int{{bit}, {bit, bit}}
			if n > 0 {
				l = append(l, []int{0, bit}, []int{bit, 0}, []int{0, 1, 2, 31, bit, 3})
			}
			for _, set := range l {
				answered(t, a.Set(set...), api.ErrMap)
				holds(t, a, make([]uint32, n)...)
			}
		}
	}
	answered(t, arrayOf(t).Set(), api.OK)
}

// model is an array once more, bit by bit.
type model struct {
	bits   [4][32]bool
	locked [4]bool
}

func (m *model) word(i int) uint32 {
	v := uint32(0)
	for k, set := range m.bits[i] {
		if set {
			v += 1 << k
		}
	}
	return v
}

func (m *model) words() []uint32 {
	return []uint32{m.word(0), m.word(1), m.word(2), m.word(3)}
}

func (m *model) cut(i int, v, got uint32) api.Errno {
	if i < 0 || i > 3 {
		return api.ErrMap
	}
	for k, set := range m.bits[i] {
		if set && v>>k%2 == 0 {
			return api.ErrFuse
		}
	}
	for k := range m.bits[i] {
		if v>>k%2 == 1 && got>>k%2 == 1 {
			m.bits[i][k] = true
		}
	}
	return api.OK
}

func (m *model) read(i int) (uint32, api.Errno) {
	if i < 0 || i > 3 {
		return 0, api.ErrMap
	}
	if m.locked[i] {
		return 0, api.ErrLock
	}
	return m.word(i), api.OK
}

// Whatever is called in turn, no bit is lost, and all is as the model has it.
func TestManyCalls(t *testing.T) {
	r := rand.New(rand.NewSource(10))
	for range 300 {
		a, m := arrayOf(t, 0, 0, 0, 0), &model{}
		for range 60 {
			before := a.Words()
			i, v, got := r.Intn(6)-1, r.Uint32()&r.Uint32()&r.Uint32(), r.Uint32()
			if i >= 0 && i < 4 && r.Intn(3) > 0 {
				v |= before[i]
			}
			switch r.Intn(8) {
			case 0, 1, 2:
				answered(t, a.Program(i, v), m.cut(i, v, v))
			case 3, 4, 5:
				answered(t, a.Cut(i, v, got), m.cut(i, v, got))
			case 6:
				bit := r.Intn(128)
				m.bits[bit/32][bit%32] = true
				answered(t, a.Set(bit), api.OK)
			case 7:
				if i >= 0 && i < 4 {
					m.locked[i] = true
					answered(t, a.Lock(i), api.OK)
				}
			}
			holds(t, a, m.words()...)
			for k, w := range a.Words() {
				if before[k]&^w != 0 {
					t.Fatalf("word %d lost the bits %x", k, before[k]&^w)
				}
			}
			for k := -1; k < 6; k++ {
				v, e := a.Read(k)
				if want, f := m.read(k); v != want || e != f || a.Locked(k) != (f == api.ErrLock) {
					t.Fatalf("word %d: %x, error %d, not %x, %d", k, v, e, want, f)
				}
			}
		}
	}
}

func TestNoArray(t *testing.T) {
	var a *fuse.Array
	for _, i := range []int{math.MinInt, -1, 0, 1, math.MaxInt} {
		if v, e := a.Read(i); v != 0 || e != api.ErrNone {
			t.Errorf("%x, error %d", v, e)
		}
		answered(t, a.Program(i, 1), api.ErrNone)
		answered(t, a.Cut(i, 1, 1), api.ErrNone)
		answered(t, a.Lock(i), api.ErrNone)
		answered(t, a.Set(i), api.ErrNone)
		if a.Locked(i) {
			t.Error("no array is locked")
		}
	}
	answered(t, a.Set(), api.ErrNone)
	if a.Len() != 0 || len(a.Words()) != 0 || a.Copy() != nil {
		t.Error("no array is one")
	}
}

func TestArgumentsAndResults(t *testing.T) {
	store := append(some(5), 1, 2, 3)
	kept := slices.Clone(store)
	a := arrayOf(t, store[:5]...)
	bits := []int{0, 33, 2, 7}
	answered(t, a.Set(bits[:2]...), api.OK)
	if !slices.Equal(store, kept) || !slices.Equal(bits, []int{0, 33, 2, 7}) {
		t.Error("an argument is changed")
	}
	want := a.Words()
	clear(store)
	holds(t, a, want...)
	got := a.Words()
	clear(got[:cap(got)])
	holds(t, a, want...)
	b := a.Copy()
	got = b.Words()
	clear(got[:cap(got)])
	holds(t, b, want...)
}
