package boot_test

import (
	"bytes"
	"crypto/sha256"
	"encoding/binary"
	"testing"

	"curtilage/api"
	"curtilage/boot"
	"curtilage/flash"
	"curtilage/journal"
	"curtilage/lms"
	"curtilage/manifest"
	"curtilage/otp"
)

// Flashes and chips, put together by the library.

const (
	page     = 256
	slotSize = 4096
)

// some returns n bytes without a short period.
func some(n int) []byte {
	p := make([]byte, n)
	x := uint32(n)*2654435761 + 1
	for i := range p {
		x = x*1664525 + 1013904223
		p[i] = byte(x >> 24)
	}
	return p
}

func digestOf(n int) api.Digest { return api.Digest(some(32 + n)[n:]) }

// signer signs as many images as one likes.
type signer struct {
	*lms.Signer
	pub []byte
}

// signerOf returns a signer whose signatures are short (type 4) or soon
// verified (type 3).
func signerOf(t *testing.T, ots uint32) signer {
	t.Helper()
	s, e := lms.New(1<<32-1<<29+1, ots, [16]byte{byte(ots)}, digestOf(int(ots)))
	answered(t, e, api.OK)
	return signer{s, s.Public()}
}

// manifestOf returns the true manifest of a payload.
func manifestOf(version, entry int, payload []byte) manifest.Manifest {
	return manifest.Manifest{Version: version, Size: len(payload), Entry: entry, Digest: sha256.Sum256(payload)}
}

// image returns the signed image of a payload.
func (s signer) image(t *testing.T, version, entry int, payload []byte) []byte {
	t.Helper()
	body := bodyOf(manifestOf(version, entry, payload))
	sig, e := s.Force(0, digestOf(1), body)
	answered(t, e, api.OK)
	p := binary.BigEndian.AppendUint16(body, uint16(len(sig)))
	return append(append(p, sig...), payload...)
}

// states returns all states with this Seq.
func states(seq uint32) []journal.State {
	var l []journal.State
	for active := range 2 {
		l = append(l, journal.State{Seq: seq, Active: active, Trial: -1})
		for trial := range 2 {
			for tries := range 4 {
				l = append(l, journal.State{Seq: seq, Active: active, Trial: trial, Tries: tries})
			}
		}
	}
	return l
}

// recordOf returns the record of a state.
func recordOf(s journal.State) []byte {
	p := binary.BigEndian.AppendUint32([]byte("BCTL"), s.Seq)
	p = append(p, byte(s.Active), byte(s.Trial+1), byte(s.Tries), 0)
	sum := sha256.Sum256(p)
	return append(p, sum[:20]...)
}

// chipOf returns a chip with a key, in a life, whose counter is this.
func chipOf(t *testing.T, pub []byte, life, counter int) *otp.Chip {
	t.Helper()
	w := make([]uint32, 64)
	if life > 0 {
		w[0] = 0xff << (8 * (life - 1))
	}
	for i := range counter {
		w[1+i/32] |= 1 << (i % 32)
	}
	for i := range 14 {
		w[9+i] = binary.BigEndian.Uint32(pub[4*i:])
	}
	c, e := otp.Of(w)
	answered(t, e, api.OK)
	if c.Life() != life || c.Counter() != counter || !bytes.Equal(c.Key(), pub) {
		t.Fatal("the chip is another one")
	}
	return c
}

// burn stores a key in a row of a chip, with these marks.
func burn(t *testing.T, c *otp.Chip, row int, key api.Digest, marks uint32) {
	t.Helper()
	for i := range 8 {
		answered(t, c.Program(27+9*row+i, binary.BigEndian.Uint32(key[4*i:])), api.OK)
	}
	answered(t, c.Program(35+9*row, marks), api.OK)
}

func blankOf(t *testing.T, pages int) *flash.Flash {
	t.Helper()
	f, e := flash.New(pages)
	answered(t, e, api.OK)
	return f
}

// flashOf returns a flash with a and b at the beginnings of the slots.
func flashOf(t *testing.T, a, b []byte) *flash.Flash {
	t.Helper()
	f := blankOf(t, api.Pages)
	answered(t, f.Write(0, a), api.OK)
	answered(t, f.Write(slotSize, b), api.OK)
	return f
}

// withState returns a copy of a flash with this state, on page 33.
func withState(t *testing.T, f *flash.Flash, s journal.State) *flash.Flash {
	t.Helper()
	f = f.Copy()
	answered(t, f.Erase(32), api.OK)
	answered(t, f.Erase(33), api.OK)
	answered(t, f.Write(33*page, recordOf(s)), api.OK)
	return f
}

// memOf returns the bytes of a flash.
func memOf(t *testing.T, f *flash.Flash) []byte {
	t.Helper()
	p, e := f.Read(0, f.Size())
	answered(t, e, api.OK)
	return p
}

// machineOf returns a machine with copies of a flash and a chip, whose RAM has
// other bytes everywhere.
func machineOf(t *testing.T, f *flash.Flash, c *otp.Chip) *boot.Machine {
	t.Helper()
	again, e := otp.Of(c.Words())
	answered(t, e, api.OK)
	m := boot.NewMachine(f.Copy(), again)
	copy(m.Space.RAM[:], some(8192))
	return m
}

// answered holds that a call has answered so.
func answered(t *testing.T, got, want api.Errno) {
	t.Helper()
	if got != want {
		t.Fatalf("error %d, not %d", got, want)
	}
}

// runs holds that a machine is about to run a payload, and nothing else is in
// Code.
func runs(t *testing.T, m *boot.Machine, b *boot.Boot, payload []byte) {
	t.Helper()
	if b.Phase != 8 || b.E != api.OK || m.Space.Stage != 1 {
		t.Fatalf("phase %d, error %d, stage %d", b.Phase, b.E, m.Space.Stage)
	}
	code := append(bytes.Clone(payload), make([]byte, 4096-len(payload))...)
	if !bytes.Equal(m.Space.RAM[:4096], code) {
		t.Fatal("something else is in Code")
	}
}

// halts holds that a boot has halted with an error, and nothing runs.
func halts(t *testing.T, m *boot.Machine, b *boot.Boot, want api.Errno) {
	t.Helper()
	if b.Phase != 9 || b.E != want || m.Space.Stage != 0 {
		t.Fatalf("phase %d, error %d, not %d, stage %d", b.Phase, b.E, want, m.Space.Stage)
	}
}
