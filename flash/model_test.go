package flash_test

import (
	"bytes"
	"math/rand"
	"testing"

	"curtilage/api"
	"curtilage/flash"
)

// pages is how many pages the model has.
const pages = 3

// model is a flash once more, bit by bit.
type model [pages * page][8]bool

func (m *model) byteAt(at int) byte {
	v := byte(0)
	for k, set := range m[at] {
		if set {
			v += 1 << k
		}
	}
	return v
}

func (m *model) bytes(from, to int) []byte {
	var p []byte
	for at := from; at < to; at++ {
		p = append(p, m.byteAt(at))
	}
	return p
}

func (m *model) set(at int, v byte) {
	for k := range m[at] {
		m[at][k] = v>>k%2 == 1
	}
}

func (m *model) erase(i int) api.Errno {
	if i < 0 || i >= pages {
		return api.ErrMap
	}
	for at := i * page; at < (i+1)*page; at++ {
		m.set(at, 255)
	}
	return api.OK
}

// write writes between two bounds, such as those of a page.
func (m *model) write(at int, p []byte, from, to int) api.Errno {
	if at < from || at+len(p) > to {
		return api.ErrMap
	}
	for i, v := range p {
		for k, set := range m[at+i] {
			if !set && v>>k%2 == 1 {
				return api.ErrState
			}
		}
	}
	for i, v := range p {
		m.set(at+i, v)
	}
	return api.OK
}

func (m *model) tear(i int, want, mask []byte) api.Errno {
	if i < 0 || i >= pages {
		return api.ErrMap
	}
	for n := range page {
		for k := range 8 {
			if n < len(want) && n < len(mask) && mask[n]>>k%2 == 1 {
				m[i*page+n][k] = want[n]>>k%2 == 1
			}
		}
	}
	return api.OK
}

// after is a write within a page of a copy, or its erasure.
func (m model) after(i, at int, p []byte) ([]byte, api.Errno) {
	if i < 0 || i >= pages {
		return nil, api.ErrMap
	}
	e := api.OK
	if len(p) == 0 {
		e = m.erase(i)
	} else {
		e = m.write(i*page+at, p, i*page, (i+1)*page)
	}
	if e != api.OK {
		return nil, e
	}
	return m.bytes(i*page, (i+1)*page), api.OK
}

// piece returns bytes that could often be written at at.
func (m *model) piece(r *rand.Rand, at int) []byte {
	p := make([]byte, r.Intn(20)*r.Intn(20))
	for i := range p {
		p[i] = byte(r.Uint32()) | byte(r.Uint32())
		if at+i >= 0 && at+i < len(m) && r.Intn(500) > 0 {
			p[i] &= m.byteAt(at + i)
		}
	}
	return p
}

// noise returns up to somewhat more bytes than a page has.
func noise(r *rand.Rand) []byte {
	p := make([]byte, r.Intn(page+20))
	r.Read(p)
	return p
}

// Whatever is called in turn, all is as the model has it.
func TestManyCalls(t *testing.T) {
	r := rand.New(rand.NewSource(12))
	for range 200 {
		f, m := blankOf(t, pages), &model{}
		for i := range pages {
			m.erase(i)
		}
		for range 50 {
			step(t, r, f, m)
			holds(t, f, m.bytes(0, len(m)))
		}
	}
}

// step makes one call that changes a flash, and asks what one would lead to.
func step(t *testing.T, r *rand.Rand, f *flash.Flash, m *model) {
	t.Helper()
	i, at := r.Intn(pages+2)-1, r.Intn(len(m)+10)-5
	switch r.Intn(6) {
	case 0:
		answered(t, f.Erase(i), m.erase(i))
	case 1, 2, 3:
		p := m.piece(r, at)
		answered(t, f.Write(at, p), m.write(at, p, 0, len(m)))
	case 4:
		want, mask := noise(r), noise(r)
		answered(t, f.Tear(i, want, mask), m.tear(i, want, mask))
	case 5:
		at := r.Intn(len(m))
		answered(t, f.Turn(at, 0x41), api.OK)
		m.set(at, m.byteAt(at)^0x41)
	}
	at = r.Intn(page+10) - 5
	p := m.piece(r, i*page+at)
	want, e := m.after(i, at, p)
	if got, f := f.After(i, at, p); f != e || !bytes.Equal(got, want) {
		t.Fatalf("%d bytes at %d of page %d: error %d, not %d; %x, not %x", len(p), at, i, f, e, got, want)
	}
	if f.Blank(i, 1) != (i >= 0 && i < pages && bytes.Equal(m.bytes(i*page, (i+1)*page), full(page))) {
		t.Fatalf("page %d is blank: %t", i, f.Blank(i, 1))
	}
}

func TestArgumentsAndResults(t *testing.T) {
	p := some(2 * page)
	f := flashOf(t, 2, p)
	for _, got := range results(t, f) {
		clear(got[:cap(got)])
		holds(t, f, p)
	}
	l := results(t, f)
	for i, got := range l {
		others := append(l[:i:i], l[i+1:]...)
		kept := bytes.Join(others, nil)
		clear(got[:cap(got)])
		if !bytes.Equal(bytes.Join(others, nil), kept) {
			t.Errorf("result %d shares memory", i)
		}
	}
}

// results returns what each call answers that answers bytes, twice.
func results(t *testing.T, f *flash.Flash) [][]byte {
	t.Helper()
	var l [][]byte
	for range 2 {
		a, e := f.Read(100, 300)
		answered(t, e, api.OK)
		b, e := f.Read(0, 0)
		answered(t, e, api.OK)
		c, e := f.After(1, 3, []byte{0})
		answered(t, e, api.OK)
		d, e := f.After(1, 0, nil)
		answered(t, e, api.OK)
		l = append(l, a, b, c, d, f.Pages(0), f.Pages(0, 1), f.Pages())
	}
	return l
}

func TestArgumentsAreLeftAloneAndNotKept(t *testing.T) {
	store := some(900)
	kept := bytes.Clone(store)
	f := blankOf(t, 2)
	answered(t, f.Tear(1, store[10:200], store[300:600]), api.OK)
	_, e := f.After(0, 0, store[:20])
	answered(t, e, api.OK)
	answered(t, f.Write(0, store[:page]), api.OK)
	if !bytes.Equal(store, kept) {
		t.Error("an argument is changed")
	}
	want, _ := f.Read(0, f.Size())
	clear(store)
	holds(t, f, want)
	list := []int{1, 0, 7}
	f.Pages(list[:2]...)
	if list[0] != 1 || list[1] != 0 || list[2] != 7 {
		t.Error("an argument is changed")
	}
}

// Two flashes of the same past answer alike, and have nothing in common.
func TestFlashesOfTheirOwn(t *testing.T) {
	f, g := blankOf(t, 2), blankOf(t, 2)
	answered(t, f.Write(0, some(page)), api.OK)
	holds(t, g, full(2*page))
	answered(t, g.Write(0, some(page)), api.OK)
	answered(t, f.Erase(0), api.OK)
	holds(t, f, full(2*page))
	holds(t, g, over(full(2*page), 0, some(page)))
}
