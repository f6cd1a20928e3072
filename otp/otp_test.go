package otp_test

import (
	"bytes"
	"math"
	"math/bits"
	"slices"
	"testing"

	"curtilage/api"
	"curtilage/fuse"
	"curtilage/otp"
)

func TestNew(t *testing.T) {
	c := otp.New()
	shown(t, c, store{})
	if c.Life() != api.Raw || c.Counter() != 0 || !bytes.Equal(c.Key(), make([]byte, 56)) || c.ID() != [16]byte{} {
		t.Error("a new chip is not blank")
	}
	for i := range 4 {
		if key, e := c.Row(i); key != (api.Digest{}) || e != api.ErrNone {
			t.Errorf("row %d: error %d, %x", i, e, key)
		}
	}
	answered(t, otp.New().Set(0), api.OK)
	shown(t, c, store{})
}

func TestOf(t *testing.T) {
	for n := range 200 {
		c, e := otp.Of(make([]uint32, n))
		if n != 64 && (c != nil || e != api.ErrArg) || n == 64 && (c == nil || e != api.OK) {
			t.Errorf("%d words: error %d, %t", n, e, c == nil)
		}
	}
	for _, n := range []int{4096, 4097, 10000} {
		if c, e := otp.Of(make([]uint32, n)); c != nil || e != api.ErrArg {
			t.Errorf("%d words: error %d", n, e)
		}
	}
	for n := range 50 {
		w := store{}.with(0, some(256 + n)[n:])
		shown(t, chipOf(t, w), w)
	}
}

// Each bit stands for what the document says, and for nothing else.
func TestEveryBit(t *testing.T) {
	for i := range 2048 {
		w := store{}.set(0, i, 1)
		c := otp.New()
		answered(t, c.Set(i), api.OK)
		shown(t, c, w)
		full := store(slices.Repeat([]uint32{math.MaxUint32}, 64))
		full[i/32] &^= 1 << (i % 32)
		shown(t, chipOf(t, full), full)
	}
}

func TestFieldsOfTheLife(t *testing.T) {
	for life := api.Dev; life <= api.Scrap; life++ {
		for v := range uint32(256) {
			c := chipOf(t, store{v << (8 * (life - 1))})
			if on := bits.OnesCount32(v) >= 5; c.Life() != life && on || c.Life() != api.Raw && !on {
				t.Errorf("field %d with %x: life %d", life, v, c.Life())
			}
		}
	}
	for v := range uint32(1 << 4) {
		w := store{}
		want := api.Raw
		for i := range 4 {
			if v>>i&1 == 1 {
				w[0] |= 0xf8 << (8 * i)
				want = i + 1
			} else {
				w[0] |= 0x87 << (8 * i) // four bits
			}
		}
		if got := chipOf(t, w).Life(); got != want {
			t.Errorf("fields %04b: life %d", v, got)
		}
	}
}

func TestCounter(t *testing.T) {
	for n := range 257 {
		w := store{}.set(1, 0, n)
		if got := chipOf(t, w).Counter(); got != min(n, 255) {
			t.Errorf("%d bits: %d", n, got)
		}
		// What comes behind a gap does not count, nor does what is no part of it.
		w = w.set(1, n+1, 255-min(n, 255)).set(0, 0, 32).set(9, 0, 32)
		if got := chipOf(t, w).Counter(); got != min(n, 255) && n < 255 {
			t.Errorf("%d bits, then a gap: %d", n, got)
		}
	}
	if got := chipOf(t, store{8: 1 << 31}).Counter(); got != 0 {
		t.Errorf("without the first bit: %d", got)
	}
}

func TestKeyAndNumber(t *testing.T) {
	w := store{}.with(9, some(56)).with(23, some(16))
	c := chipOf(t, w)
	if !bytes.Equal(c.Key(), some(56)) || c.ID() != [16]byte(some(16)) {
		t.Errorf("%x, %x", c.Key(), c.ID())
	}
	w = store{9: 0x01020304, 22: 0x05060708, 23: 0x090a0b0c, 26: 0x0d0e0f10}
	c = chipOf(t, w)
	key, id := c.Key(), c.ID()
	if len(key) != 56 || !bytes.Equal(key[:4], []byte{1, 2, 3, 4}) || !bytes.Equal(key[52:], []byte{5, 6, 7, 8}) {
		t.Errorf("key %x", key)
	}
	if !bytes.Equal(id[:4], []byte{9, 10, 11, 12}) || !bytes.Equal(id[12:], []byte{13, 14, 15, 16}) {
		t.Errorf("number %x", id)
	}
}

// Of the marks, five bits of eight decide; begun ones do not count.
func TestRow(t *testing.T) {
	for i := range 4 {
		for v := range uint32(256) {
			for _, d := range []uint32{0, 0x0f, 0x78, 0x1f, 0xf8, 0xff, 0xaa, 0xab, v, ^v & 0xff} {
				for _, rest := range []uint32{0, 0xff, 0xffff, 0xff00} {
					key := digestOf(int(v))
					w := store{}.with(27+9*i, key[:])
					w[35+9*i] = v | d<<8 | rest<<16
					want, wantE := key, api.OK
					switch {
					case bits.OnesCount32(d) >= 5:
						want, wantE = api.Digest{}, api.ErrDead
					case bits.OnesCount32(v) < 5:
						want, wantE = api.Digest{}, api.ErrNone
					}
					if got, e := chipOf(t, w).Row(i); got != want || e != wantE {
						t.Fatalf("row %d, marks %x: error %d, %x", i, w[35+9*i], e, got)
					}
				}
			}
		}
	}
}

func TestRowsAreApart(t *testing.T) {
	w := store{}
	for i := range 4 {
		w = w.with(27+9*i, some(40 + i)[:32])
		w[35+9*i] = 0xff00ff
	}
	c := chipOf(t, w)
	for i := range 4 {
		if key, e := c.Row(i); e != api.OK || key != api.Digest(some(40 + i)[:32]) {
			t.Errorf("row %d: error %d, %x", i, e, key)
		}
	}
}

func TestRowsThatThereAreNot(t *testing.T) {
	sealed := otp.New()
	sealed.Seal()
	for _, c := range []*otp.Chip{otp.New(), sealed} {
		for _, i := range append([]int{4, 5, 7, 8}, outside...) {
			if key, e := c.Row(i); key != (api.Digest{}) || e != api.ErrArg {
				t.Errorf("row %d: error %d, %x", i, e, key)
			}
			l, e := c.ToRow(i, digestOf(1))
			refused(t, l, e, api.ErrArg)
			l, e = c.Kill(i)
			refused(t, l, e, api.ErrArg)
		}
	}
}

// rows returns a valid, a dead, a broken and an empty row.
func rows() store {
	w := store{}
	for i := range 3 {
		w = w.with(27+9*i, some(50 + i)[:32])
	}
	w[35], w[44], w[53] = 0xff00ff, 0xffffff, 0xff0000
	return w
}

func TestSeal(t *testing.T) {
	c := chipOf(t, rows())
	for i, want := range []api.Errno{api.OK, api.ErrDead, api.ErrNone, api.ErrNone} {
		_, e := c.Row(i)
		answered(t, e, want)
	}
	for range 2 {
		c.Seal()
		for i := range 4 {
			if key, e := c.Row(i); key != (api.Digest{}) || e != api.ErrLock {
				t.Errorf("row %d: error %d, %x", i, e, key)
			}
		}
		for i := range 64 {
			v, e := c.Read(i)
			switch inRow := i >= 27 && i < 63; {
			case c.Locked(i) != inRow, inRow && (v != 0 || e != api.ErrLock), !inRow && (v != rows()[i] || e != api.OK):
				t.Errorf("word %d: %x, error %d, locked %t", i, v, e, c.Locked(i))
			}
		}
	}
	if storeOf(t, c) != rows() {
		t.Error("Seal changes something")
	}
}

func TestWhatASealedChipStillDoes(t *testing.T) {
	c := chipOf(t, rows())
	c.Seal()
	l, e := c.Kill(0)
	planned(t, l, e, otp.Write{Word: 35, Value: 0xffffff})
	answered(t, c.Do(l...), api.OK)
	l, e = c.ToRow(2, digestOf(1))
	refused(t, l, e, api.ErrState)
	l, e = c.ToRow(3, digestOf(1))
	answered(t, e, api.OK)
	answered(t, c.Do(l...), api.OK)
	l, e = c.ToLife(api.Prod)
	answered(t, e, api.OK)
	answered(t, c.Do(l...), api.OK)
	l, e = c.ToCounter(40)
	answered(t, e, api.OK)
	answered(t, c.Do(l...), api.OK)
	if c.Life() != api.Prod || c.Counter() != 40 {
		t.Errorf("life %d, counter %d", c.Life(), c.Counter())
	}
	d := digestOf(1)
	want := rows().set(0, 8, 8).set(1, 0, 40).set(35, 8, 8).with(54, d[:]).set(62, 0, 8).set(62, 16, 8)
	if storeOf(t, c) != want {
		t.Errorf("%x, not %x", storeOf(t, c), want)
	}
	shown(t, chipOf(t, storeOf(t, c)), want) // another chip, that is not sealed
}

// A row of which a word is locked is not read; the others are.
func TestRowsOfWhichAWordIsLocked(t *testing.T) {
	for i := range 4 {
		for k := range 9 {
			w := store{}
			for n := range 4 {
				w[35+9*n] = 0xff00ff
			}
			c := chipOf(t, w)
			answered(t, c.Lock(27+9*i+k), api.OK)
			for n := range 4 {
				want := api.OK
				if n == i {
					want = api.ErrLock
				}
				_, e := c.Row(n)
				answered(t, e, want)
			}
		}
	}
}

// What is no secret is known whatever is locked: the life must not fall back.
func TestLocksHideNothingElse(t *testing.T) {
	w := store{}.set(0, 0, 24).set(1, 0, 77).with(9, some(56)).with(23, some(16))
	c := chipOf(t, w)
	for i := range 27 {
		answered(t, c.Lock(i), api.OK)
	}
	shown(t, c, w)
	l, e := c.ToCounter(78)
	planned(t, l, e, otp.Write{Word: 3, Value: 0x3fff})
	l, e = c.ToLife(api.Scrap)
	planned(t, l, e, otp.Write{Word: 0, Value: math.MaxUint32})
}

// The array's methods are those of the chip's own array.
func TestArray(t *testing.T) {
	c := otp.New()
	var a *fuse.Array = c.Array
	if c.Len() != 64 || a.Len() != 64 {
		t.Errorf("%d words", c.Len())
	}
	answered(t, c.Program(5, 6), api.OK)
	answered(t, c.Program(5, 4), api.ErrFuse)
	answered(t, c.Cut(5, 15, 8), api.OK)
	answered(t, c.Set(64), api.OK)
	answered(t, c.Set(2048), api.ErrMap)
	answered(t, c.Lock(2), api.OK)
	answered(t, c.Lock(64), api.ErrMap)
	if v, e := c.Read(5); v != 14 || e != api.OK {
		t.Errorf("%x, error %d", v, e)
	}
	if v, e := c.Read(2); v != 0 || e != api.ErrLock || !c.Locked(2) || c.Locked(3) || !a.Locked(2) {
		t.Errorf("%x, error %d", v, e)
	}
	want := store{2: 1, 5: 14}
	if !slices.Equal(c.Words(), want[:]) || !slices.Equal(a.Words(), want[:]) {
		t.Errorf("%x", c.Words())
	}
	b := c.Copy()
	if v, e := b.Read(2); v != 1 || e != api.OK || b.Locked(2) {
		t.Errorf("%x, error %d", v, e)
	}
	answered(t, b.Program(0, 1), api.OK)
	answered(t, a.Program(1, 1), api.OK)
	if v, _ := b.Read(1); v != 0 || c.Words()[0] != 0 || c.Counter() != 1 {
		t.Error("a copy is not one, or the array is one")
	}
}

func TestNoChip(t *testing.T) {
	var c *otp.Chip
	if c.Life() != 0 || c.Counter() != 0 || len(c.Key()) != 0 || c.ID() != [16]byte{} {
		t.Error("no chip is one")
	}
	numbers := append([]int{0, 1, 2, 3, 4, 5, 64, 255}, outside...)
	for _, n := range numbers {
		if key, e := c.Row(n); key != (api.Digest{}) || e != api.ErrNone {
			t.Errorf("row %d: error %d, %x", n, e, key)
		}
		l, e := c.ToLife(n)
		refused(t, l, e, api.ErrNone)
		l, e = c.ToCounter(n)
		refused(t, l, e, api.ErrNone)
		l, e = c.ToRow(n, digestOf(1))
		refused(t, l, e, api.ErrNone)
		l, e = c.Kill(n)
		refused(t, l, e, api.ErrNone)
		w := otp.Write{Word: n, Value: 1}
		answered(t, c.Do(w), api.ErrNone)
		answered(t, c.Tear(w, 1), api.ErrNone)
	}
	for _, n := range []int{0, 55, 56, 57} {
		l, e := c.ToKey(make([]byte, n), [16]byte{})
		refused(t, l, e, api.ErrNone)
	}
	answered(t, c.Do(), api.ErrNone)
	c.Seal()
	for _, n := range numbers {
		if v, e := c.Read(n); v != 0 || e != api.ErrNone || c.Locked(n) {
			t.Errorf("word %d: %x, error %d", n, v, e)
		}
		answered(t, c.Program(n, 1), api.ErrNone)
		answered(t, c.Cut(n, 1, 1), api.ErrNone)
		answered(t, c.Lock(n), api.ErrNone)
		answered(t, c.Set(n), api.ErrNone)
	}
	answered(t, c.Set(), api.ErrNone)
	if c.Len() != 0 || len(c.Words()) != 0 || c.Copy() != nil {
		t.Error("no chip has an array")
	}
}

func TestArgumentsAndResults(t *testing.T) {
	w := rows().with(9, some(56)).set(1, 0, 40)
	words := append(slices.Clone(w[:]), 1, 2, 3)
	kept := slices.Clone(words)
	c, e := otp.Of(words[:64])
	if e != api.OK || !slices.Equal(words, kept) {
		t.Fatalf("error %d", e)
	}
	clear(words)
	shown(t, c, w)
	key := c.Key()
	clear(key[:cap(key)])
	got := c.Words()
	clear(got[:cap(got)])
	shown(t, c, w)

	blank := otp.New()
	pub := append(some(56), 1, 2, 3)
	keptPub := bytes.Clone(pub)
	first, _ := blank.ToKey(pub[:56], idOf(1))
	if !bytes.Equal(pub, keptPub) {
		t.Error("an argument is changed")
	}
	clear(pub)
	second, _ := blank.ToKey(some(56), idOf(1))
	if !slices.Equal(first, second) {
		t.Error("a plan hangs on its argument")
	}
	clear(first[:cap(first)])
	if third, _ := blank.ToKey(some(56), idOf(1)); !slices.Equal(second, third) {
		t.Error("plans share their memory")
	}
	kind := slices.Clone(second)
	answered(t, blank.Do(second...), api.OK)
	if !slices.Equal(second, kind) {
		t.Error("Do changes its plan")
	}
	clear(second)
	if !bytes.Equal(blank.Key(), some(56)) || blank.ID() != idOf(1) {
		t.Error("a chip hangs on a plan")
	}
	shown(t, otp.New(), store{})
}
