// Package mac is layer 2: HMAC-SHA-256 (FIPS 198-1), incrementally, and key
// derivation.
package mac

import (
	"curtilage/api"
	"curtilage/sha"
)

// The bytes that set the inner hash's key apart from the outer one's.
const (
	innerPad = 0x36
	outerPad = 0x5c
)

// Mac is a keyed hash of what was fed so far.
type Mac struct {
	inner sha.State
	outer sha.State
}

// New returns the state of the empty message under the key.
func New(key []byte) Mac {
	block := keyBlock(key)
	return Mac{inner: masked(block, innerPad), outer: masked(block, outerPad)}
}

// keyBlock fits a key into one block; only a longer one is hashed first.
func keyBlock(key []byte) [64]byte {
	var block [64]byte
	if len(key) > len(block) {
		d := sha.Sum(key)
		copy(block[:], d[:])
		return block
	}
	copy(block[:], key)
	return block
}

// masked returns the hash state that was fed the block, each byte xored by pad.
func masked(block [64]byte, pad byte) sha.State {
	for i := range block {
		block[i] ^= pad
	}
	return sha.New().Feed(block[:])
}

// Feed returns the state with p appended.
func (m Mac) Feed(p []byte) Mac {
	m.inner = m.inner.Feed(p)
	return m
}

// Sum returns the MAC of everything fed so far.
func (m Mac) Sum() api.Digest {
	d := m.inner.Sum()
	return m.outer.Feed(d[:]).Sum()
}

// Sum returns the MAC of the concatenated parts.
func Sum(key []byte, parts ...[]byte) api.Digest {
	m := New(key)
	for _, p := range parts {
		m = m.Feed(p)
	}
	return m.Sum()
}

// Derive returns a key for the label and the parts. All lengths are fed too,
// so that no two lists of parts are fed as the same bytes.
func Derive(key []byte, label string, parts ...[]byte) api.Digest {
	m := New(key).feedCount(len(label)).Feed([]byte(label))
	m = m.feedCount(len(parts))
	for _, p := range parts {
		m = m.feedCount(len(p)).Feed(p)
	}
	return m.Sum()
}

// feedCount appends a number in four bytes, big-endian.
func (m Mac) feedCount(n int) Mac {
	return m.Feed([]byte{byte(n >> 24), byte(n >> 16), byte(n >> 8), byte(n)})
}

// Equal reports whether a and b are equal. It looks at every byte, so that how
// long it takes does not tell where they differ.
func Equal(a, b api.Digest) bool {
	var differ byte
	for i := range a {
		differ |= a[i] ^ b[i]
	}
	return differ == 0
}
