package flash_test

import (
	"bytes"
	"math"
	"testing"

	"curtilage/api"
	"curtilage/flash"
)

const page = api.Page

// some returns n bytes without a short period.
func some(n int) []byte {
	p := make([]byte, n)
	x := uint32(n)*2654435761 + 1
	for i := range p {
		x = x*1664525 + 1013904223
		p[i] = byte(x>>24 ^ x>>15)
	}
	return p
}

// full returns n bytes of an erased page.
func full(n int) []byte { return bytes.Repeat([]byte{0xff}, n) }

// over returns p, which x replaces from at on.
func over(p []byte, at int, x []byte) []byte {
	q := bytes.Clone(p)
	copy(q[at:], x)
	return q
}

func blankOf(t *testing.T, pages int) *flash.Flash {
	t.Helper()
	f, e := flash.New(pages)
	if e != api.OK || f == nil {
		t.Fatalf("%d pages: error %d", pages, e)
	}
	return f
}

// flashOf returns a flash that p has been written to from its first byte on.
func flashOf(t *testing.T, pages int, p []byte) *flash.Flash {
	t.Helper()
	f := blankOf(t, pages)
	answered(t, f.Write(0, p), api.OK)
	return f
}

// holds holds that a flash has these bytes.
func holds(t *testing.T, f *flash.Flash, want []byte) {
	t.Helper()
	got, e := f.Read(0, f.Size())
	if e != api.OK || f.Size() != len(want) || !bytes.Equal(got, want) {
		t.Fatalf("error %d, %d bytes, not %d, or others", e, f.Size(), len(want))
	}
}

// answered holds that a call has answered so.
func answered(t *testing.T, got, want api.Errno) {
	t.Helper()
	if got != want {
		t.Errorf("error %d, not %d", got, want)
	}
}

// outside returns numbers of no byte, or of no page, of n that there are.
func outside(n int) []int {
	return []int{n, n + 1, n + 255, n + 256, n + 1<<20, 1 << 32, 1<<32 + n, 1 << 55, 1 << 56, 1<<56 + n,
		math.MaxInt32, math.MaxInt - n, math.MaxInt - 1, math.MaxInt,
		-1, -2, -n - 1, -255, -256, -257, -1 << 32, -1 << 55, -1 << 56, math.MinInt32, math.MinInt, math.MinInt + n}
}

func TestTheExample(t *testing.T) {
	f := blankOf(t, 1)
	answered(t, f.Write(0, []byte{0xf0}), api.OK)
	answered(t, f.Write(0, []byte{0x30}), api.OK)
	holds(t, f, over(full(page), 0, []byte{0x30}))
	answered(t, f.Write(0, []byte{0xff}), api.ErrState)
	holds(t, f, over(full(page), 0, []byte{0x30}))
}

func TestNew(t *testing.T) {
	for _, n := range []int{0, 1, 2, 40, 1023, 1024} {
		f := blankOf(t, n)
		if f.Size() != n*256 {
			t.Errorf("%d pages: %d bytes", n, f.Size())
		}
		holds(t, f, full(n*256))
	}
	for _, n := range []int{-1, -2, -40, -1 << 56, math.MinInt32, math.MinInt,
		1025, 1026, 4096, 1 << 32, 1 << 56, 1<<56 + 1, math.MaxInt32, math.MaxInt} {
		if f, e := flash.New(n); f != nil || e != api.ErrArg {
			t.Errorf("%d pages: error %d, %t", n, e, f == nil)
		}
	}
}

func TestReadOfEveryRange(t *testing.T) {
	p := some(2 * page)
	f := flashOf(t, 2, p)
	for at := 0; at <= len(p); at++ {
		for _, n := range []int{0, 1, 2, 255, 256, 257, 511, 512, len(p) - at - 1, len(p) - at} {
			got, e := f.Read(at, n)
			if n < 0 || at+n > len(p) {
				if e != api.ErrMap || got != nil {
					t.Fatalf("%d from %d on: error %d, %x", n, at, e, got)
				}
				continue
			}
			if e != api.OK || !bytes.Equal(got, p[at:at+n]) {
				t.Fatalf("%d from %d on: error %d, %x", n, at, e, got)
			}
		}
		for _, n := range outside(len(p) - at + 1) {
			if got, e := f.Read(at, n); e != api.ErrMap || got != nil {
				t.Fatalf("%d from %d on: error %d, %x", n, at, e, got)
			}
		}
	}
	holds(t, f, p)
}

func TestReadWhereThereIsNothing(t *testing.T) {
	for _, pages := range []int{0, 1, 3} {
		f := blankOf(t, pages)
		for _, at := range outside(f.Size() + 1) {
			for _, n := range []int{0, 1, 2, -at, f.Size() - at, math.MaxInt, math.MinInt, -1} {
				if got, e := f.Read(at, n); e != api.ErrMap || got != nil {
					t.Errorf("%d from %d on: error %d, %x", n, at, e, got)
				}
			}
		}
		if got, e := f.Read(f.Size(), 0); e != api.OK || len(got) != 0 {
			t.Errorf("behind the end: error %d, %x", e, got)
		}
	}
}

func TestErase(t *testing.T) {
	p := some(5 * page)
	for i := range 5 {
		f := flashOf(t, 5, p)
		want := over(p, i*page, full(page))
		for range 2 {
			answered(t, f.Erase(i), api.OK)
			holds(t, f, want)
		}
		answered(t, f.Write(i*page, p[:page]), api.OK) // it may be written again
		holds(t, f, over(p, i*page, p[:page]))
	}
	f := flashOf(t, 5, p)
	for _, i := range outside(5) {
		answered(t, f.Erase(i), api.ErrMap)
		holds(t, f, p)
	}
	answered(t, blankOf(t, 0).Erase(0), api.ErrMap)
}

// Of every byte to every other.
func TestWriteOfEveryByte(t *testing.T) {
	for old := range 256 {
		for v := range 256 {
			before, after := []byte{1, byte(old), 2}, []byte{1, byte(v), 2}
			f := flashOf(t, 1, before)
			g, want := f.Copy(), over(full(page), 0, before)
			wanted := api.OK
			if v&^old != 0 {
				wanted = api.ErrState
			} else {
				want = over(want, 0, after)
			}
			answered(t, f.Write(1, []byte{byte(v)}), wanted)
			holds(t, f, want)
			got, e := g.After(0, 1, []byte{byte(v)})
			answered(t, e, wanted)
			if e == api.OK && !bytes.Equal(got, want) || e != api.OK && got != nil {
				t.Fatalf("%x after %x: error %d, %x", v, old, e, got)
			}
		}
	}
}

func TestWriteAcrossPages(t *testing.T) {
	for _, at := range []int{0, 1, 200, 255, 256, 257, 511, 512, 1000} {
		for _, n := range []int{1, 2, 24, 56, 255, 256, 257, 512, 700, 1024 - at} {
			f, p := blankOf(t, 4), some(n)
			if at+n > 1024 {
				answered(t, f.Write(at, p), api.ErrMap)
				holds(t, f, full(1024))
				continue
			}
			for range 2 { // the same bytes may be written twice
				answered(t, f.Write(at, p), api.OK)
				holds(t, f, over(full(1024), at, p))
			}
		}
	}
}

// Wherever the bit is that cannot be set, the bytes before it stay, too.
func TestWriteThatIsRefused(t *testing.T) {
	for bad := 200; bad < 600; bad++ {
		f := blankOf(t, 3)
		bit := byte(1) << (bad % 8)
		answered(t, f.Write(bad, []byte{^bit}), api.OK)
		before := over(full(3*page), bad, []byte{^bit})
		for _, p := range [][]byte{full(400), over(make([]byte, 400), bad-200, []byte{bit})} {
			answered(t, f.Write(200, p), api.ErrState)
			holds(t, f, before)
		}
		answered(t, f.Write(200, make([]byte, 400)), api.OK)
		holds(t, f, over(before, 200, make([]byte, 400)))
	}
}

func TestWriteWhereThereIsNothing(t *testing.T) {
	for _, pages := range []int{0, 1, 3} {
		p := some(pages * page)
		f := flashOf(t, pages, p)
		for _, at := range outside(len(p) + 1) {
			for _, n := range []int{0, 1, 2, 700} {
				answered(t, f.Write(at, make([]byte, n)), api.ErrMap)
				answered(t, f.Write(at, full(n)), api.ErrMap) // which is the smaller number
			}
		}
		for at := 0; at <= len(p); at++ {
			answered(t, f.Write(at, make([]byte, len(p)-at+1)), api.ErrMap)
			answered(t, f.Write(at, full(len(p)-at+1)), api.ErrMap)
			answered(t, f.Write(at, nil), api.OK)
			answered(t, f.Write(at, []byte{}), api.OK)
		}
		holds(t, f, p)
	}
}

// What After tells is what Write and Erase do, as long as the page is left alone.
func TestAfter(t *testing.T) {
	p := some(3 * page)
	f := flashOf(t, 3, p)
	for i := range 3 {
		for at := range page {
			for _, n := range []int{1, 2, 17, 255, 256, page - at} {
				x := make([]byte, n)
				if at+n > page {
					refused(t, f, i, at, x, api.ErrMap)
					refused(t, f, i, at, full(n), api.ErrMap)
					continue
				}
				copy(x, p[i*page+at:])
				x[0] &= 0x5a
				x[n-1] &= 0xc3
				g := f.Copy()
				answered(t, g.Write(i*page+at, x), api.OK)
				got, e := f.After(i, at, x)
				if e != api.OK || !bytes.Equal(got, g.Pages(i)) {
					t.Fatalf("%d bytes at %d of page %d: error %d, %x", n, at, i, e, got)
				}
			}
			if p[i*page+at] != 0xff {
				refused(t, f, i, at, []byte{0xff}, api.ErrState)
				refused(t, f, i, 0, over(make([]byte, page), at, []byte{0xff}), api.ErrState)
			}
		}
	}
	holds(t, f, p)
}

// refused holds that After answers nothing but this error.
func refused(t *testing.T, f *flash.Flash, i, at int, x []byte, want api.Errno) {
	t.Helper()
	if got, e := f.After(i, at, x); e != want || got != nil {
		t.Fatalf("%d bytes at %d of page %d: error %d, not %d; %x", len(x), at, i, e, want, got)
	}
}

func TestAfterOfAnErase(t *testing.T) {
	p := some(3 * page)
	f := flashOf(t, 3, p)
	for i := range 3 {
		for _, at := range append(outside(page), 0, 1, 255) {
			for _, none := range [][]byte{nil, {}} {
				if got, e := f.After(i, at, none); e != api.OK || !bytes.Equal(got, full(page)) {
					t.Fatalf("at %d of page %d: error %d, %x", at, i, e, got)
				}
			}
		}
	}
	holds(t, f, p)
}

func TestAfterWhereThereIsNothing(t *testing.T) {
	for _, pages := range []int{0, 1, 3} {
		p := some(pages * page)
		f := flashOf(t, pages, p)
		for _, i := range outside(pages) {
			for _, at := range []int{0, 5, 256, -1, math.MinInt, math.MaxInt} {
				for _, x := range [][]byte{nil, {0}, {0xff}, make([]byte, 257)} {
					refused(t, f, i, at, x, api.ErrMap)
				}
			}
		}
		for i := range pages {
			for _, at := range outside(page) {
				for _, n := range []int{1, 2, 255, 256, 257, 1000} {
					refused(t, f, i, at, make([]byte, n), api.ErrMap)
					refused(t, f, i, at, full(n), api.ErrMap) // which is the smaller number
				}
			}
			refused(t, f, i, 0, make([]byte, 257), api.ErrMap)
			refused(t, f, i, 0, make([]byte, 512), api.ErrMap)
		}
		holds(t, f, p)
	}
}

// Of two bits at a time: the old, the new, and which of them are torn.
func TestEveryTear(t *testing.T) {
	for n := range 64 {
		for shift := 0; shift < 8; shift += 2 {
			old, want, mask := byte(n&3<<shift), byte(n>>2&3<<shift), byte(n>>4&3<<shift)
			f := flashOf(t, 1, []byte{9, old, 7})
			answered(t, f.Tear(0, []byte{9, want, 0}, []byte{0, mask, 0}), api.OK)
			got := byte(0)
			for k := range 8 {
				from := old
				if mask>>k&1 == 1 {
					from = want
				}
				got |= from & (1 << k)
			}
			holds(t, f, over(full(page), 0, []byte{9, got, 7}))
		}
	}
}

// Bytes that mask or want does not have stay, and those that the page does not
// have are nobody's.
func TestTearOfEveryLength(t *testing.T) {
	p := some(3 * page)
	lengths := []int{0, 1, 2, 100, 255, 256, 257, 512, 800}
	for i := range 3 {
		for _, w := range lengths {
			for _, m := range lengths {
				f := flashOf(t, 3, p)
				want, mask := some(w + 5)[:w], some(m + 9)[:m]
				next := bytes.Clone(p)
				for k := range min(w, m, page) {
					next[i*page+k] = p[i*page+k]&^mask[k] + want[k]&mask[k]
				}
				answered(t, f.Tear(i, want, mask), api.OK)
				holds(t, f, next)
				answered(t, f.Tear(i, want, mask), api.OK) // once more changes nothing
				holds(t, f, next)
			}
		}
		f := flashOf(t, 3, p)
		for _, want := range [][]byte{nil, full(page), make([]byte, page)} {
			answered(t, f.Tear(i, want, nil), api.OK)
			answered(t, f.Tear(i, want, make([]byte, page)), api.OK)
			answered(t, f.Tear(i, nil, want), api.OK)
			holds(t, f, p)
		}
	}
}

// A change that is torn leaves each bit as it was or as it would be, and may be
// made again.
func TestTearOfAChange(t *testing.T) {
	p := some(2 * page)
	for _, x := range [][]byte{nil, {0}, make([]byte, 100)} {
		f := flashOf(t, 2, p)
		after, e := f.After(1, 20, x)
		answered(t, e, api.OK)
		for seed := range 20 {
			g, mask := f.Copy(), some(page + seed)[seed:]
			answered(t, g.Tear(1, after, mask), api.OK)
			for k, b := range g.Pages(1) {
				if (b^p[page+k])&^mask[k] != 0 || (b^after[k])&mask[k] != 0 {
					t.Fatalf("byte %d: %x of %x and %x", k, b, p[page+k], after[k])
				}
			}
			if again, e := g.After(1, 20, x); e != api.OK || !bytes.Equal(again, after) {
				t.Fatalf("error %d, %x", e, again)
			}
		}
		answered(t, f.Tear(1, after, full(page)), api.OK)
		holds(t, f, append(p[:page:page], after...))
	}
}

func TestTearWhereThereIsNothing(t *testing.T) {
	for _, pages := range []int{0, 1, 3} {
		p := some(pages * page)
		f := flashOf(t, pages, p)
		for _, i := range outside(pages) {
			answered(t, f.Tear(i, make([]byte, page), full(page)), api.ErrMap)
			answered(t, f.Tear(i, nil, nil), api.ErrMap)
			holds(t, f, p)
		}
	}
}

func TestTurn(t *testing.T) {
	p := some(2 * page)
	f := flashOf(t, 2, p)
	for at := range p {
		for _, by := range []byte{0, 1, 0x80, 0xff, byte(at)} {
			answered(t, f.Turn(at, by), api.OK)
			holds(t, f, over(p, at, []byte{p[at] ^ by}))
			answered(t, f.Turn(at, by), api.OK)
			holds(t, f, p)
		}
	}
	for _, at := range outside(len(p)) {
		for _, by := range []byte{0, 1, 0xff} {
			answered(t, f.Turn(at, by), api.ErrMap)
		}
	}
	answered(t, blankOf(t, 0).Turn(0, 0), api.ErrMap)
	holds(t, f, p)
}

func TestBlank(t *testing.T) {
	for _, dirty := range []int{-1, 0, 1, 255, 256, 511, 512, 767, 1023} {
		f := blankOf(t, 4)
		if dirty >= 0 {
			answered(t, f.Turn(dirty, 1<<(dirty%8)), api.OK)
		}
		for from := -2; from <= 6; from++ {
			for pages := -2; pages <= 6; pages++ {
				want := from >= 0 && pages >= 0 && from+pages <= 4
				if dirty >= from*page && dirty < (from+pages)*page {
					want = false
				}
				if f.Blank(from, pages) != want {
					t.Errorf("%d pages from %d on, byte %d is not erased: %t", pages, from, dirty, !want)
				}
			}
		}
	}
	f := blankOf(t, 1024)
	if !f.Blank(0, 1024) || !f.Blank(1024, 0) || f.Blank(1, 1024) || f.Blank(0, 1025) {
		t.Error("a flash of 1024 pages")
	}
	answered(t, f.Write(100000, []byte{0xfe}), api.OK)
	answered(t, f.Erase(100000/page), api.OK)
	if !f.Blank(0, 1024) {
		t.Error("a page that is erased again")
	}
}

func TestBlankWhereThereIsNothing(t *testing.T) {
	for _, pages := range []int{0, 1, 3} {
		f := blankOf(t, pages)
		for _, x := range outside(pages + 1) {
			for _, y := range []int{0, 1, pages, -x, pages - x, math.MaxInt, math.MinInt} {
				if f.Blank(x, y) || f.Blank(y, x) {
					t.Errorf("%d and %d of %d pages", x, y, pages)
				}
			}
		}
		if !f.Blank(0, pages) || !f.Blank(pages, 0) {
			t.Errorf("%d pages are not blank", pages)
		}
	}
}

func TestCopy(t *testing.T) {
	p := some(2 * page)
	f := flashOf(t, 2, p)
	g := f.Copy()
	h := g.Copy()
	answered(t, f.Erase(0), api.OK)
	answered(t, g.Write(page, make([]byte, page)), api.OK)
	answered(t, g.Turn(0, 0xff), api.OK)
	answered(t, f.Tear(1, make([]byte, 3), full(2)), api.OK)
	holds(t, f, over(over(p, 0, full(page)), page, []byte{0, 0}))
	holds(t, g, over(over(p, page, make([]byte, page)), 0, []byte{^p[0]}))
	holds(t, h, p)
	holds(t, blankOf(t, 0).Copy(), nil)
	holds(t, blankOf(t, 1024).Copy(), full(1024*page))
}

func TestPages(t *testing.T) {
	p := some(3 * page)
	f := flashOf(t, 3, p)
	of := func(i int) []byte { return p[i*page : (i+1)*page] }
	for _, l := range []struct {
		pages []int
		want  [][]byte
	}{
		{nil, nil},
		{[]int{}, nil},
		{[]int{1}, [][]byte{of(1)}},
		{[]int{0, 1, 2}, [][]byte{p}},
		{[]int{2, 0, 1}, [][]byte{of(2), of(0), of(1)}},
		{[]int{2, 2, 2}, [][]byte{of(2), of(2), of(2)}},
		{[]int{-1, 1, 3, 0, 4}, [][]byte{of(1), of(0)}},
		{outside(3), nil},
		{append(outside(3), 2), [][]byte{of(2)}},
	} {
		if got := f.Pages(l.pages...); !bytes.Equal(got, bytes.Join(l.want, nil)) {
			t.Errorf("pages %v: %d bytes, or others", l.pages, len(got))
		}
	}
	if got := f.Pages(); len(got) != 0 {
		t.Errorf("no pages: %x", got)
	}
	if got := blankOf(t, 0).Pages(0, 1); len(got) != 0 {
		t.Errorf("pages of none: %x", got)
	}
}

func TestNoFlash(t *testing.T) {
	var f *flash.Flash
	for _, i := range []int{math.MinInt, -1, 0, 1, 256, math.MaxInt} {
		for _, n := range []int{math.MinInt, -1, 0, 1, math.MaxInt} {
			if p, e := f.Read(i, n); p != nil || e != api.ErrNone {
				t.Errorf("%x, error %d", p, e)
			}
			if f.Blank(i, n) {
				t.Error("no flash is blank")
			}
		}
		for _, x := range [][]byte{nil, {0}, {0xff}, full(page)} {
			answered(t, f.Write(i, x), api.ErrNone)
			answered(t, f.Tear(i, x, x), api.ErrNone)
			if p, e := f.After(i, i, x); p != nil || e != api.ErrNone {
				t.Errorf("%x, error %d", p, e)
			}
		}
		answered(t, f.Erase(i), api.ErrNone)
		answered(t, f.Turn(i, 1), api.ErrNone)
		if f.Pages(i) != nil || f.Pages(i, 0, i) != nil {
			t.Error("no flash has pages")
		}
	}
	if f.Size() != 0 || f.Copy() != nil || f.Pages() != nil {
		t.Error("no flash is one")
	}
}
