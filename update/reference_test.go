package update_test

import (
	"bytes"
	"crypto/sha256"
	"encoding/binary"
	"math"
	"slices"
	"testing"

	"curtilage/api"
	"curtilage/flash"
	"curtilage/journal"
	"curtilage/lms"
	"curtilage/otp"
	"curtilage/update"
)

// The plans once more, operation by operation, and the flashes and chips for
// them, put together by the library.

const (
	page     = 256
	slotSize = 4096
)

// noSlots are numbers of no slot.
var noSlots = []int{-1, -2, -16, 2, 3, 4, 15, 16, 32, 255, 256, 257, math.MinInt, math.MinInt32, math.MaxInt32, math.MaxInt, 1 << 32, 1<<32 + 1, -1 << 32, 1 << 60}

// some returns n bytes without a short period.
func some(n int) []byte {
	p := make([]byte, n)
	x := uint32(n)*2654435761 + 1
	for i := range p {
		x = x*1664525 + 1013904223
		p[i] = byte(x >> 24)
	}
	return p
}

func digestOf(n int) api.Digest { return api.Digest(some(32 + n)[n:]) }

// full returns n bytes of an erased page.
func full(n int) []byte { return bytes.Repeat([]byte{0xff}, n) }

// signer signs as many images as one likes.
type signer struct {
	*lms.Signer
	pub []byte
}

func signerOf(t *testing.T, n int) signer {
	t.Helper()
	s, e := lms.New(1<<32-1<<29+1, 3, [16]byte{byte(n)}, digestOf(n))
	answered(t, e, api.OK)
	return signer{s, s.Public()}
}

// image returns the signed image of a payload.
func (s signer) image(t *testing.T, version int, payload []byte) []byte {
	t.Helper()
	body := []byte("CURT")
	for _, v := range []int{version, len(payload), 0} {
		body = binary.BigEndian.AppendUint32(body, uint32(v))
	}
	sum := sha256.Sum256(payload)
	body = append(body, sum[:]...)
	sig, e := s.Force(0, digestOf(1), body)
	answered(t, e, api.OK)
	p := binary.BigEndian.AppendUint16(body, uint16(len(sig)))
	return append(append(p, sig...), payload...)
}

// states returns all states with this Seq.
func states(seq uint32) []journal.State {
	var l []journal.State
	for active := range 2 {
		l = append(l, journal.State{Seq: seq, Active: active, Trial: -1})
		for trial := range 2 {
			for tries := range 4 {
				l = append(l, journal.State{Seq: seq, Active: active, Trial: trial, Tries: tries})
			}
		}
	}
	return l
}

// recordOf returns the record of a state.
func recordOf(s journal.State) []byte {
	p := binary.BigEndian.AppendUint32([]byte("BCTL"), s.Seq)
	p = append(p, byte(s.Active), byte(s.Trial+1), byte(s.Tries), 0)
	sum := sha256.Sum256(p)
	return append(p, sum[:20]...)
}

// chipOf returns a chip with a key, in life Prod, of whose counter the bits
// that some are set.
func chipOf(t *testing.T, pub []byte, set func(int) bool) *otp.Chip {
	t.Helper()
	w := make([]uint32, 64)
	w[0] = 0xff00
	for i := range 255 {
		if set(i) {
			w[1+i/32] |= 1 << (i % 32)
		}
	}
	for i := range 14 {
		w[9+i] = binary.BigEndian.Uint32(pub[4*i:])
	}
	c, e := otp.Of(w)
	answered(t, e, api.OK)
	return c
}

// counting returns a chip whose counter is n.
func counting(t *testing.T, pub []byte, n int) *otp.Chip {
	t.Helper()
	c := chipOf(t, pub, func(i int) bool { return i < n })
	if c.Counter() != n {
		t.Fatalf("the counter is %d", c.Counter())
	}
	return c
}

func blankOf(t *testing.T, pages int) *flash.Flash {
	t.Helper()
	f, e := flash.New(pages)
	answered(t, e, api.OK)
	return f
}

// flashOf returns a flash with a and b at the beginnings of the slots.
func flashOf(t *testing.T, a, b []byte) *flash.Flash {
	t.Helper()
	f := blankOf(t, api.Pages)
	answered(t, f.Write(0, a), api.OK)
	answered(t, f.Write(slotSize, b), api.OK)
	return f
}

// withState stores a state as the last one, on page 32.
func withState(t *testing.T, f *flash.Flash, s journal.State) {
	t.Helper()
	answered(t, f.Erase(33), api.OK)
	answered(t, f.Erase(32), api.OK)
	answered(t, f.Write(32*page, recordOf(s)), api.OK)
}

// rewriting is the plan that stores a state once withState has stored another.
func rewriting(s journal.State) []journal.Op {
	return []journal.Op{{Kind: 1, Page: 33}, {Kind: 2, Page: 33, Bytes: recordOf(s)}}
}

// staging is the plan that stores an image.
func staging(slot int, image []byte) []journal.Op {
	var l []journal.Op
	for i := 16 * slot; i < 16*slot+16; i++ {
		l = append(l, journal.Op{Kind: 1, Page: i})
	}
	for i := 0; page*i < len(image); i++ {
		l = append(l, journal.Op{Kind: 2, Page: 16*slot + i, Bytes: image[page*i : min(page*i+page, len(image))]})
	}
	return l
}

// raising is the plan that makes the counter n.
func raising(c *otp.Chip, n int) []journal.Op {
	var l []journal.Op
	for i, old := range c.Words()[1:9] {
		v := old
		for k := range 32 {
			if 32*i+k < n {
				v |= 1 << k
			}
		}
		if v != old {
			l = append(l, journal.Op{Kind: 3, Word: 1 + i, Value: v})
		}
	}
	return l
}

// memOf returns the bytes of a flash.
func memOf(t *testing.T, f *flash.Flash) []byte {
	t.Helper()
	p, e := f.Read(0, f.Size())
	answered(t, e, api.OK)
	return p
}

// copyOf returns a place whose flash and chip are copies.
func copyOf(t *testing.T, p update.Place) update.Place {
	t.Helper()
	c, e := otp.Of(p.Chip.Words())
	answered(t, e, api.OK)
	return update.Place{Flash: p.Flash.Copy(), Chip: c, Running: p.Running}
}

// alike holds that two places have the same bytes and words.
func alike(t *testing.T, a, b update.Place) {
	t.Helper()
	if !bytes.Equal(memOf(t, a.Flash), memOf(t, b.Flash)) {
		t.Fatal("the flashes differ")
	}
	if !slices.Equal(a.Chip.Words(), b.Chip.Words()) {
		t.Fatal("the chips differ")
	}
}

// answered holds that a call has answered so.
func answered(t *testing.T, got, want api.Errno) {
	t.Helper()
	if got != want {
		t.Fatalf("error %d, not %d", got, want)
	}
}

// planned holds that these are the operations of a plan, and that it leaves
// everything as it is.
func planned(t *testing.T, p update.Place, plan func(update.Place) ([]journal.Op, api.Errno), want ...journal.Op) {
	t.Helper()
	before := copyOf(t, p)
	got, e := plan(p)
	answered(t, e, api.OK)
	alike(t, p, before)
	same := len(got) == len(want)
	for i := range min(len(got), len(want)) {
		a, b := got[i], want[i]
		same = same && a.Kind == b.Kind && a.Page == b.Page && a.At == b.At && bytes.Equal(a.Bytes, b.Bytes) && a.Word == b.Word && a.Value == b.Value
	}
	if !same {
		t.Fatalf("%v, not %v", got, want)
	}
}

// refused holds that there is no such plan.
func refused(t *testing.T, p update.Place, plan func(update.Place) ([]journal.Op, api.Errno), want api.Errno) {
	t.Helper()
	got, e := plan(p)
	if e != want || len(got) != 0 {
		t.Fatalf("error %d, not %d; %v", e, want, got)
	}
}

// stage returns the method that stages an image.
func stage(image []byte) func(update.Place) ([]journal.Op, api.Errno) {
	return func(p update.Place) ([]journal.Op, api.Errno) { return p.Stage(image) }
}
