// Package sha is layer 1: SHA-256 (FIPS 180-4), incrementally.
package sha

import (
	"math/bits"

	"curtilage/api"
)

// blockSize is how many bytes are compressed at once.
const blockSize = 64

// initial is the hash value before the first block.
var initial = [8]uint32{
	0x6a09e667, 0xbb67ae85, 0x3c6ef372, 0xa54ff53a,
	0x510e527f, 0x9b05688c, 0x1f83d9ab, 0x5be0cd19,
}

// constants has one word for each of the 64 rounds.
var constants = [64]uint32{
	0x428a2f98, 0x71374491, 0xb5c0fbcf, 0xe9b5dba5, 0x3956c25b, 0x59f111f1, 0x923f82a4, 0xab1c5ed5,
	0xd807aa98, 0x12835b01, 0x243185be, 0x550c7dc3, 0x72be5d74, 0x80deb1fe, 0x9bdc06a7, 0xc19bf174,
	0xe49b69c1, 0xefbe4786, 0x0fc19dc6, 0x240ca1cc, 0x2de92c6f, 0x4a7484aa, 0x5cb0a9dc, 0x76f988da,
	0x983e5152, 0xa831c66d, 0xb00327c8, 0xbf597fc7, 0xc6e00bf3, 0xd5a79147, 0x06ca6351, 0x14292967,
	0x27b70a85, 0x2e1b2138, 0x4d2c6dfc, 0x53380d13, 0x650a7354, 0x766a0abb, 0x81c2c92e, 0x92722c85,
	0xa2bfe8a1, 0xa81a664b, 0xc24b8b70, 0xc76c51a3, 0xd192e819, 0xd6990624, 0xf40e3585, 0x106aa070,
	0x19a4c116, 0x1e376c08, 0x2748774c, 0x34b0bcb5, 0x391c0cb3, 0x4ed8aa4a, 0x5b9cca4f, 0x682e6ff3,
	0x748f82ee, 0x78a5636f, 0x84c87814, 0x8cc70208, 0x90befffa, 0xa4506ceb, 0xbef9a3f7, 0xc67178f2,
}

// State is a hash of what was fed so far. The part of rest behind the bytes
// that wait for their block is always zero: equal inputs make equal states,
// and nothing is kept of a block that was compressed (it may hold a key).
type State struct {
	hash [8]uint32
	rest [blockSize]byte
	fed  uint64
}

// New returns the state of the empty message.
func New() State { return State{hash: initial} }

// Feed returns the state with p appended.
func (s State) Feed(p []byte) State {
	waiting := int(s.fed % blockSize)
	s.fed += uint64(len(p))
	for waiting+len(p) >= blockSize {
		taken := copy(s.rest[waiting:], p)
		s.hash = Press(s.hash, s.rest)
		s.rest = [blockSize]byte{}
		p = p[taken:]
		waiting = 0
	}
	copy(s.rest[waiting:], p)
	return s
}

// Sum returns the hash of everything fed so far.
func (s State) Sum() api.Digest { return Digest(s.Feed(Pad(s.fed)).hash) }

// Len returns the number of bytes fed.
func (s State) Len() uint64 { return s.fed }

// Sum returns the hash of the concatenated parts.
func Sum(parts ...[]byte) api.Digest {
	s := New()
	for _, p := range parts {
		s = s.Feed(p)
	}
	return s.Sum()
}

// Press compresses a block with the initial state h.
func Press(h [8]uint32, b [64]byte) [8]uint32 { return rounds(h, schedule(b)) }

// rounds works the words of the 64 rounds into h.
func rounds(h [8]uint32, words [64]uint32) [8]uint32 {
	// Eight variables rather than an array: the compiler keeps them in registers.
	a, b, c, d, e, f, g, last := h[0], h[1], h[2], h[3], h[4], h[5], h[6], h[7]
	for i, w := range words {
		up := last + bigSigma1(e) + choose(e, f, g) + constants[i] + w
		down := bigSigma0(a) + majority(a, b, c)
		last, g, f, e = g, f, e, d+up
		d, c, b, a = c, b, a, up+down
	}
	return [8]uint32{
		h[0] + a, h[1] + b, h[2] + c, h[3] + d,
		h[4] + e, h[5] + f, h[6] + g, h[7] + last,
	}
}

// schedule spreads a block over the words of the 64 rounds.
func schedule(block [64]byte) [64]uint32 {
	var w [64]uint32
	for i := range 16 {
		w[i] = word(block[4*i : 4*i+4])
	}
	for i := range 48 {
		w[i+16] = smallSigma1(w[i+14]) + w[i+9] + smallSigma0(w[i+1]) + w[i]
	}
	return w
}

func choose(x, y, z uint32) uint32 { return x&y ^ ^x&z }

func majority(x, y, z uint32) uint32 { return x&y ^ x&z ^ y&z }

func bigSigma0(x uint32) uint32 { return right(x, 2) ^ right(x, 13) ^ right(x, 22) }

func bigSigma1(x uint32) uint32 { return right(x, 6) ^ right(x, 11) ^ right(x, 25) }

func smallSigma0(x uint32) uint32 { return right(x, 7) ^ right(x, 18) ^ x>>3 }

func smallSigma1(x uint32) uint32 { return right(x, 17) ^ right(x, 19) ^ x>>10 }

func right(x uint32, n int) uint32 { return bits.RotateLeft32(x, -n) }

// Words returns the eight big-endian words of a digest.
func Words(d api.Digest) [8]uint32 {
	var w [8]uint32
	for i := range w {
		w[i] = word(d[4*i : 4*i+4])
	}
	return w
}

// Digest returns the bytes of eight words, big-endian.
func Digest(w [8]uint32) api.Digest {
	var d api.Digest
	for i, x := range w {
		put(d[4*i:4*i+4], uint64(x))
	}
	return d
}

// Pad returns the padding after n bytes.
func Pad(n uint64) []byte {
	// 64 - 9, less what the last block already holds; the wrap-round of the
	// difference does no harm, as 64 divides 2^64.
	zeros := (blockSize - 9 - n) % blockSize
	p := make([]byte, 1+zeros+8)
	p[0] = 0x80
	put(p[1+zeros:], 8*n)
	return p
}

// word reads the first four bytes of p, big-endian.
func word(p []byte) uint32 {
	return uint32(p[0])<<24 | uint32(p[1])<<16 | uint32(p[2])<<8 | uint32(p[3])
}

// put fills p with the low bytes of v, big-endian.
func put(p []byte, v uint64) {
	for i := range p {
		p[len(p)-1-i] = byte(v >> (8 * i))
	}
}
