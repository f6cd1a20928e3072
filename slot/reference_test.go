package slot_test

import (
	"crypto/aes"
	"crypto/cipher"
	"crypto/hmac"
	"crypto/sha256"
	"encoding/binary"
	"math"
	"testing"

	"curtilage/api"
	"curtilage/slot"
)

// The kinds of keys, and how many places there are.
const (
	ofChip   = 1
	derived  = 2
	software = 3
	places   = 8
)

// strangers are numbers of no place.
var strangers = []int{-1, -2, -8, 8, 9, 16, 255, 256, 1 << 32, 1<<32 + 1, -1 << 32, math.MaxInt32, math.MinInt32, math.MaxInt, math.MinInt}

// notKinds are numbers of no kind of keys.
var notKinds = []int{-1, -2, 0, 4, 5, 7, 255, 257, 258, 1 << 32, 1<<32 + 1, 1<<32 + 3, -1<<32 + 2, math.MaxInt, math.MinInt}

// some returns n bytes without a short period.
func some(n int) []byte {
	p := make([]byte, n)
	x := uint32(n)*2654435761 + 1
	for i := range p {
		x = x*1664525 + 1013904223
		p[i] = byte(x >> 24)
	}
	return p
}

// key returns one of many keys.
func key(n int) api.Digest { return api.Digest(some(32 + n)[n:]) }

// macOf is the library's MAC.
func macOf(k api.Digest, parts ...[]byte) api.Digest {
	h := hmac.New(sha256.New, k[:])
	for _, p := range parts {
		h.Write(p)
	}
	return api.Digest(h.Sum(nil))
}

// derivedFrom is layer 2's Derive, by its bytes and the library's MAC.
func derivedFrom(k api.Digest, label string, parts ...[]byte) api.Digest {
	p := binary.BigEndian.AppendUint32(nil, uint32(len(label)))
	p = append(p, label...)
	p = binary.BigEndian.AppendUint32(p, uint32(len(parts)))
	for _, x := range parts {
		p = binary.BigEndian.AppendUint32(p, uint32(len(x)))
		p = append(p, x...)
	}
	return macOf(k, p)
}

// ciphered is layer 4's Run with a kind that there is, by the library.
func ciphered(t *testing.T, k api.Digest, kind int, back bool, start api.Block, p []byte) []byte {
	t.Helper()
	c, err := aes.NewCipher(k[:])
	if err != nil {
		t.Fatal(err)
	}
	out := make([]byte, len(p))
	switch {
	case kind == 2:
		cipher.NewCTR(c, start[:]).XORKeyStream(out, p)
	case kind == 1 && back:
		cipher.NewCBCDecrypter(c, start[:]).CryptBlocks(out, p)
	case kind == 1:
		cipher.NewCBCEncrypter(c, start[:]).CryptBlocks(out, p)
	default:
		for i := 0; i < len(p); i += 16 {
			if back {
				c.Decrypt(out[i:], p[i:])
			} else {
				c.Encrypt(out[i:], p[i:])
			}
		}
	}
	return out
}

// answered holds that a call has this error.
func answered(t *testing.T, got, want api.Errno) {
	t.Helper()
	if got != want {
		t.Errorf("error %d, not %d", got, want)
	}
}

// fails holds that Mac and Cipher of a place have this error, and nothing else.
func fails(t *testing.T, s *slot.Slots, h int, want api.Errno) {
	t.Helper()
	if d, e := s.Mac(h, some(5)); d != (api.Digest{}) || e != want {
		t.Errorf("place %d: MAC %x, error %d, not %d", h, d, e, want)
	}
	if p, e := s.Cipher(h, 1, false, api.Block{}, some(16)); len(p) != 0 || e != want {
		t.Errorf("place %d: cipher %x, error %d, not %d", h, p, e, want)
	}
}

// stands holds which kinds of keys the places have (0 for an empty one), and
// that no other place has any.
func stands(t *testing.T, s *slot.Slots, kinds ...int) {
	t.Helper()
	count := 0
	for h := range places {
		want := 0
		if h < len(kinds) {
			want = kinds[h]
		}
		if got := s.Kind(h); got != want {
			t.Errorf("place %d: kind %d, not %d", h, got, want)
		}
		if want != 0 {
			count++
		}
	}
	if got := s.Count(); got != count {
		t.Errorf("%d places with keys, not %d", got, count)
	}
	for _, h := range strangers {
		if got := s.Kind(h); got != 0 {
			t.Errorf("place %d: kind %d", h, got)
		}
	}
}

// uses holds that a place has this key.
func uses(t *testing.T, s *slot.Slots, h int, k api.Digest) {
	t.Helper()
	if d, e := s.Mac(h, some(7)); d != macOf(k, some(7)) || e != api.OK {
		t.Errorf("place %d: error %d, or another key", h, e)
	}
}

// states holds whether slots are locked and dead.
func states(t *testing.T, s *slot.Slots, locked, dead bool) {
	t.Helper()
	if s.Locked() != locked || s.Dead() != dead {
		t.Errorf("locked: %t, dead: %t, not %t and %t", s.Locked(), s.Dead(), locked, dead)
	}
}

// laid returns slots with these kinds in the first places (0 for an empty
// one), each with the key of its number.
func laid(t *testing.T, kinds ...int) *slot.Slots {
	t.Helper()
	s := slot.New()
	for h, kind := range kinds {
		if kind != 0 {
			answered(t, s.Lay(h, kind, key(h)), api.OK)
		}
	}
	return s
}
