package choose_test

import (
	"bytes"
	"crypto/sha256"
	"encoding/binary"
	"math"
	"slices"
	"testing"

	"curtilage/api"
	"curtilage/choose"
	"curtilage/flash"
	"curtilage/journal"
	"curtilage/lms"
	"curtilage/manifest"
	"curtilage/otp"
)

// The selection once more, and flashes and chips for it that are put together
// by the library.

const (
	page     = 256
	slotSize = 4096
)

// some returns n bytes without a short period.
func some(n int) []byte {
	p := make([]byte, n)
	x := uint32(n)*2654435761 + 1
	for i := range p {
		x = x*1664525 + 1013904223
		p[i] = byte(x >> 24)
	}
	return p
}

func digestOf(n int) api.Digest { return api.Digest(some(32 + n)[n:]) }

// signer signs as many images as one likes.
type signer struct {
	*lms.Signer
	pub []byte
}

func signerOf(t *testing.T, ots uint32) signer {
	t.Helper()
	s, e := lms.New(1<<32-1<<29+1, ots, [16]byte{byte(ots)}, digestOf(int(ots)))
	answered(t, e, api.OK)
	return signer{s, s.Public()}
}

// manifestOf returns the true manifest of a payload.
func manifestOf(version, entry int, payload []byte) manifest.Manifest {
	return manifest.Manifest{Version: version, Size: len(payload), Entry: entry, Digest: sha256.Sum256(payload)}
}

// image returns the signed image of a manifest and a payload, true or not.
func (s signer) image(t *testing.T, m manifest.Manifest, payload []byte) []byte {
	t.Helper()
	body := []byte("CURT")
	for _, v := range []int{m.Version, m.Size, m.Entry} {
		body = binary.BigEndian.AppendUint32(body, uint32(v))
	}
	body = append(body, m.Digest[:]...)
	sig, e := s.Force(0, digestOf(1), body)
	answered(t, e, api.OK)
	p := binary.BigEndian.AppendUint16(body, uint16(len(sig)))
	return append(append(p, sig...), payload...)
}

// good returns the image of some payload.
func (s signer) good(t *testing.T, version, size int) []byte {
	t.Helper()
	return s.image(t, manifestOf(version, size-4, some(size)), some(size))
}

// states returns all states with this Seq.
func states(seq uint32) []journal.State {
	var l []journal.State
	for active := range 2 {
		l = append(l, journal.State{Seq: seq, Active: active, Trial: -1})
		for trial := range 2 {
			for tries := range 4 {
				l = append(l, journal.State{Seq: seq, Active: active, Trial: trial, Tries: tries})
			}
		}
	}
	return l
}

// selected is the document's Select, of a valid state.
func selected(life int, s journal.State, l [2]api.Errno) choose.Choice {
	if life == 4 {
		return choose.Choice{Slot: -1, State: s, E: api.ErrDead}
	}
	if life != 1 && life != 2 && life != 3 {
		return choose.Choice{Slot: -1, State: s, E: api.ErrState}
	}
	if s.Trial >= 0 && l[s.Trial] == 0 && s.Tries <= 2 {
		after := journal.State{Seq: s.Seq, Active: s.Active, Trial: s.Trial, Tries: s.Tries + 1}
		return choose.Choice{Slot: s.Trial, State: after, Change: true, Trial: true}
	}
	c := choose.Choice{Slot: s.Active, State: journal.State{Seq: s.Seq, Active: s.Active, Trial: -1}, Change: s.Trial >= 0}
	if l[s.Active] == 0 {
		return c
	}
	if l[1-s.Active] == 0 {
		c.Slot, c.State.Active, c.Change = 1-s.Active, 1-s.Active, true
		return c
	}
	c.Slot, c.E = -1, api.ErrNone
	return c
}

// chipOf returns a chip with a key, in a life, whose counter is this.
func chipOf(t *testing.T, pub []byte, life, counter int) *otp.Chip {
	t.Helper()
	w := make([]uint32, 64)
	if life > 0 {
		w[0] = 0xff << (8 * (life - 1))
	}
	for i := range counter {
		w[1+i/32] |= 1 << (i % 32)
	}
	for i := range 14 {
		w[9+i] = binary.BigEndian.Uint32(pub[4*i:])
	}
	c, e := otp.Of(w)
	answered(t, e, api.OK)
	if c.Life() != life || c.Counter() != counter || !bytes.Equal(c.Key(), pub) {
		t.Fatal("the chip is another one")
	}
	return c
}

func blankOf(t *testing.T, pages int) *flash.Flash {
	t.Helper()
	f, e := flash.New(pages)
	answered(t, e, api.OK)
	return f
}

// flashOf returns a flash with a and b at the beginnings of the slots.
func flashOf(t *testing.T, a, b []byte) *flash.Flash {
	t.Helper()
	f := blankOf(t, api.Pages)
	put(t, f, 0, a)
	put(t, f, slotSize, b)
	return f
}

func put(t *testing.T, f *flash.Flash, at int, p []byte) {
	t.Helper()
	answered(t, f.Write(at, p), api.OK)
}

// withState stores a state as the last one, in a record of the document's.
func withState(t *testing.T, f *flash.Flash, s journal.State) {
	t.Helper()
	p := binary.BigEndian.AppendUint32([]byte("BCTL"), s.Seq)
	p = append(p, byte(s.Active), byte(s.Trial+1), byte(s.Tries), 0)
	sum := sha256.Sum256(p)
	put(t, f, 32*page, append(p, sum[:20]...))
}

// memOf returns the bytes of a flash.
func memOf(t *testing.T, f *flash.Flash) []byte {
	t.Helper()
	p, e := f.Read(0, f.Size())
	answered(t, e, api.OK)
	return p
}

// answered holds that a call has answered so.
func answered(t *testing.T, got, want api.Errno) {
	t.Helper()
	if got != want {
		t.Fatalf("error %d, not %d", got, want)
	}
}

// seen holds that a view is this one.
func seen(t *testing.T, got choose.View, m manifest.Manifest, payload []byte) {
	t.Helper()
	if got.E != api.OK || got.Man != m || !bytes.Equal(got.Payload, payload) {
		t.Fatalf("error %d, %v, %d bytes", got.E, got.Man, len(got.Payload))
	}
}

// unseen holds that a view is an error and nothing else.
func unseen(t *testing.T, got choose.View, want api.Errno) {
	t.Helper()
	if got.E != want || got.Man != (manifest.Manifest{}) || len(got.Payload) != 0 {
		t.Fatalf("error %d, not %d; %v, %d bytes", got.E, want, got.Man, len(got.Payload))
	}
}

// valid holds that these slots are valid.
func valid(t *testing.T, f *flash.Flash, c *otp.Chip, want ...int) {
	t.Helper()
	if got := choose.Valid(f, c); !slices.Equal(got, want) {
		t.Fatalf("%v are valid, not %v", got, want)
	}
}

// noSlots are numbers of no slot.
var noSlots = []int{-1, -2, -16, 2, 3, 4, 15, 16, 31, 32, 256, 4096, math.MinInt, math.MinInt32, math.MaxInt32, math.MaxInt, 1 << 32, 1<<32 + 1, 1 << 52, 1 << 56, 1 << 60, 1<<60 + 1, -1 << 60, 1 << 62}
