package journal_test

import (
	"bytes"
	"crypto/sha256"
	"encoding/binary"
	"math"
	"testing"

	"curtilage/api"
	"curtilage/flash"
	"curtilage/journal"
	"curtilage/otp"
)

// The journal once more, byte by byte, with the library's hash: what ours is
// held against.

const page = 256

// some returns n bytes without a short period.
func some(n int) []byte {
	p := make([]byte, n)
	x := uint32(n)*2654435761 + 1
	for i := range p {
		x = x*1664525 + 1013904223
		p[i] = byte(x >> 24)
	}
	return p
}

// full returns n bytes of an erased page.
func full(n int) []byte { return bytes.Repeat([]byte{0xff}, n) }

// over returns p, which x replaces from at on.
func over(p []byte, at int, x []byte) []byte {
	q := bytes.Clone(p)
	copy(q[at:], x)
	return q
}

// summed returns a text and the first 20 bytes of its hash.
func summed(head []byte) []byte {
	sum := sha256.Sum256(head)
	return append(bytes.Clone(head), sum[:20]...)
}

// written returns the record with these bytes, whether there is such a state
// or not.
func written(seq uint32, active, trial, tries, last byte) []byte {
	head := binary.BigEndian.AppendUint32([]byte("BCTL"), seq)
	return summed(append(head, active, trial, tries, last))
}

// recordOf returns the record of a state that there is.
func recordOf(s journal.State) []byte {
	return written(s.Seq, byte(s.Active), byte(s.Trial+1), byte(s.Tries), 0)
}

// states returns all states with this Seq.
func states(seq uint32) []journal.State {
	var l []journal.State
	for active := range 2 {
		l = append(l, journal.State{Seq: seq, Active: active, Trial: -1})
		for trial := range 2 {
			for tries := range 4 {
				l = append(l, journal.State{Seq: seq, Active: active, Trial: trial, Tries: tries})
			}
		}
	}
	return l
}

// parsed is the document's Parse: the state whose record p is.
func parsed(p []byte) (journal.State, bool) {
	if len(p) != 32 {
		return journal.State{}, false
	}
	for _, s := range states(binary.BigEndian.Uint32(p[4:])) {
		if bytes.Equal(recordOf(s), p) {
			return s, true
		}
	}
	return journal.State{}, false
}

// read is the document's Read of a flash with these bytes.
func read(mem []byte) (journal.State, int) {
	a, inA := onPage(mem, 32)
	b, inB := onPage(mem, 33)
	switch {
	case inA && (!inB || a.Seq >= b.Seq):
		return a, 32
	case inB:
		return b, 33
	}
	return journal.State{Trial: -1}, -1
}

func onPage(mem []byte, i int) (journal.State, bool) {
	if len(mem) < (i+1)*page {
		return journal.State{}, false
	}
	return parsed(mem[i*page:][:32])
}

// world is the bytes of a flash and the words of a chip.
type world struct {
	mem   []byte
	words []uint32
}

// do is the document's Do of one operation.
func (w *world) do(o journal.Op) api.Errno { return w.tear(o, full(page)) }

// tear is the document's Tear, bit by bit.
func (w *world) tear(o journal.Op, mask []byte) api.Errno {
	switch o.Kind {
	case 1:
		return w.tearPage(o.Page, full(page), mask)
	case 2:
		want, e := w.after(o.Page, o.At, o.Bytes)
		if e != api.OK {
			return e
		}
		return w.tearPage(o.Page, want, mask)
	case 3:
		return w.tearWord(o.Word, o.Value, append(bytes.Clone(mask), 0, 0, 0, 0))
	}
	return api.ErrArg
}

// after returns a page in which p is written.
func (w *world) after(i, at int, p []byte) ([]byte, api.Errno) {
	if i < 0 || i >= len(w.mem)/page {
		return nil, api.ErrMap
	}
	want := bytes.Clone(w.mem[i*page:][:page])
	if len(p) == 0 {
		return want, api.OK
	}
	if at < 0 || at > page || at+len(p) > page {
		return nil, api.ErrMap
	}
	for n, v := range p {
		if v&want[at+n] != v {
			return nil, api.ErrState
		}
		want[at+n] = v
	}
	return want, api.OK
}

func (w *world) tearPage(i int, want, mask []byte) api.Errno {
	if i < 0 || i >= len(w.mem)/page {
		return api.ErrMap
	}
	for n := range min(page, len(mask)) {
		for k := range 8 {
			if bit := byte(1) << k; mask[n]&bit != 0 {
				w.mem[i*page+n] = w.mem[i*page+n]&^bit + want[n]&bit
			}
		}
	}
	return api.OK
}

func (w *world) tearWord(i int, v uint32, mask []byte) api.Errno {
	if i < 0 || i >= len(w.words) {
		return api.ErrMap
	}
	if w.words[i]&v != w.words[i] {
		return api.ErrFuse
	}
	for k := range 32 {
		if v>>k%2 == 1 && mask[3-k/8]>>(k%8)%2 == 1 {
			w.words[i] |= 1 << k
		}
	}
	return api.OK
}

// blankOf returns a flash with so many pages, all erased.
func blankOf(t *testing.T, pages int) *flash.Flash {
	t.Helper()
	f, e := flash.New(pages)
	if e != api.OK || f == nil {
		t.Fatalf("%d pages: error %d", pages, e)
	}
	return f
}

// flashOf returns a flash that has a and b at the beginning of the journal's
// pages.
func flashOf(t *testing.T, a, b []byte) *flash.Flash {
	t.Helper()
	f := blankOf(t, api.Pages)
	answered(t, f.Write(32*page, a), api.OK)
	answered(t, f.Write(33*page, b), api.OK)
	return f
}

// memOf returns the bytes of a flash.
func memOf(t *testing.T, f *flash.Flash) []byte {
	t.Helper()
	p, e := f.Read(0, f.Size())
	answered(t, e, api.OK)
	return p
}

// holds holds that a flash and a chip have what the world has.
func (w *world) holds(t *testing.T, f *flash.Flash, c *otp.Chip) {
	t.Helper()
	if !bytes.Equal(memOf(t, f), w.mem) {
		t.Fatal("the flash has other bytes")
	}
	for i, v := range c.Words() {
		if v != w.words[i] {
			t.Fatalf("word %d is %x, not %x", i, v, w.words[i])
		}
	}
}

// worldOf returns what a flash and a chip have.
func worldOf(t *testing.T, f *flash.Flash, c *otp.Chip) *world {
	t.Helper()
	return &world{memOf(t, f), c.Words()}
}

// answered holds that a call has answered so.
func answered(t *testing.T, got, want api.Errno) {
	t.Helper()
	if got != want {
		t.Errorf("error %d, not %d", got, want)
	}
}

// stored holds that Read answers a state and its page.
func stored(t *testing.T, f *flash.Flash, want journal.State, wantAt int) {
	t.Helper()
	if got, at := journal.Read(f); got != want || at != wantAt {
		t.Fatalf("%v on page %d, not %v on page %d", got, at, want, wantAt)
	}
}

// sameOps holds that these are the operations.
func sameOps(t *testing.T, got []journal.Op, want ...journal.Op) {
	t.Helper()
	same := len(got) == len(want)
	for i := range min(len(got), len(want)) {
		a, b := got[i], want[i]
		same = same && a.Kind == b.Kind && a.Page == b.Page && a.At == b.At && bytes.Equal(a.Bytes, b.Bytes) && a.Word == b.Word && a.Value == b.Value
	}
	if !same {
		t.Fatalf("%v, not %v", got, want)
	}
}

// rewriting returns what erases a page of the journal and writes a record
// there.
func rewriting(i int, s journal.State) []journal.Op {
	return []journal.Op{{Kind: 1, Page: i}, {Kind: 2, Page: i, Bytes: recordOf(s)}}
}

// outside are numbers of nothing that there is.
var outside = []int{-1, -2, -32, -256, math.MinInt32, -1 << 32, -1 << 55, math.MinInt, 40, 41, 64, 256, 4096, math.MaxInt32, 1 << 32, 1<<32 + 1, 1 << 55, 1 << 56, 1<<56 + 32, math.MaxInt}

// wrong are states that there are not.
func wrong() []journal.State {
	var l []journal.State
	for _, n := range []int{math.MinInt, math.MinInt32, -256, -2, -1, 2, 3, 4, 5, 254, 255, 256, 257, math.MaxInt32, 1 << 32, 1<<32 + 1, math.MaxInt} {
		if n < -1 || n > 1 {
			l = append(l, journal.State{Trial: n}, journal.State{Active: 1, Trial: n, Tries: 2})
		}
		if n < 0 || n > 3 {
			l = append(l, journal.State{Trial: 0, Tries: n}, journal.State{Active: 1, Trial: 1, Tries: n})
		}
		l = append(l, journal.State{Active: n, Trial: -1}, journal.State{Active: n, Trial: 1, Tries: 1}, journal.State{Trial: -1, Tries: n})
	}
	for tries := 1; tries <= 3; tries++ {
		l = append(l, journal.State{Trial: -1, Tries: tries}, journal.State{Active: 1, Trial: -1, Tries: tries})
	}
	for i := range l {
		l[i].Seq = uint32(i) * 77
	}
	return l
}
