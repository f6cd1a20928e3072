package meas_test

import (
	"crypto/hmac"
	"crypto/sha256"
	"encoding/binary"
	"encoding/hex"
	"math"
	"testing"

	"curtilage/api"
	"curtilage/meas"
	"curtilage/slot"
)

// registers is how many there are.
const registers = 4

// state is what the registers hold.
type state = [registers]api.Digest

// strangers are numbers of no register.
var strangers = []int{-1, -2, -4, 4, 5, 8, 255, 256, 1 << 32, 1<<32 + 1, -1 << 32, math.MaxInt32, math.MinInt32, math.MaxInt, math.MinInt}

// some returns n bytes without a short period.
func some(n int) []byte {
	p := make([]byte, n)
	x := uint32(n)*2654435761 + 1
	for i := range p {
		x = x*1664525 + 1013904223
		p[i] = byte(x >> 24)
	}
	return p
}

// extended is a register after p, by the library.
func extended(register api.Digest, p []byte) api.Digest {
	d := sha256.Sum256(p)
	return sha256.Sum256(append(register[:], d[:]...))
}

// joined returns the bytes of all registers.
func joined(all state) []byte {
	var p []byte
	for _, d := range all {
		p = append(p, d[:]...)
	}
	return p
}

// quoted is the quote of registers, by its bytes and the library's MAC.
func quoted(key, nonce []byte, all state) api.Digest {
	h := hmac.New(sha256.New, key)
	h.Write(binary.BigEndian.AppendUint32([]byte("QUOT"), uint32(len(nonce))))
	h.Write(nonce)
	h.Write(joined(all))
	return api.Digest(h.Sum(nil))
}

// extend holds that registers can be extended.
func extend(t *testing.T, m meas.Meas, i int, parts ...[]byte) meas.Meas {
	t.Helper()
	next, e := m.Extend(i, parts...)
	if e != api.OK {
		t.Fatalf("register %d: error %d", i, e)
	}
	return next
}

// shows holds what all calls tell of the registers.
func shows(t *testing.T, m meas.Meas, want state) {
	t.Helper()
	if got := m.All(); got != want {
		t.Errorf("%x, not %x", got, want)
	}
	for i := range want {
		if d, ok := m.Get(i); d != want[i] || !ok {
			t.Errorf("register %d: %t, %x, not %x", i, ok, d, want[i])
		}
	}
	for _, i := range strangers {
		if d, ok := m.Get(i); d != (api.Digest{}) || ok {
			t.Errorf("register %d: %t, %x", i, ok, d)
		}
	}
	if got := m.Digest(); got != sha256.Sum256(joined(want)) {
		t.Errorf("digest %x", got)
	}
}

// several returns registers that all differ, and what they hold.
func several(t *testing.T) (meas.Meas, state) {
	t.Helper()
	m := meas.New()
	var all state
	for i := range all {
		for n := range i + 1 {
			m = extend(t, m, i, some(10*i+n))
			all[i] = extended(all[i], some(10*i+n))
		}
	}
	return m, all
}

// keyed returns slots with the key in a place.
func keyed(t *testing.T, h int, key []byte) *slot.Slots {
	t.Helper()
	s := slot.New()
	if e := s.Lay(h, 3, api.Digest(key)); e != api.OK {
		t.Fatalf("place %d: error %d", h, e)
	}
	return s
}

// hexes returns the digests that are written so.
func hexes(t *testing.T, texts ...string) []api.Digest {
	t.Helper()
	var l []api.Digest
	for _, text := range texts {
		p, err := hex.DecodeString(text)
		if err != nil {
			t.Fatal(err)
		}
		l = append(l, api.Digest(p))
	}
	return l
}
