package lms_test

import (
	"bytes"
	"crypto/sha256"
	"encoding/binary"
	"testing"

	"curtilage/api"
	"curtilage/lms"
	"curtilage/ots"
)

// The trees once more, as the RFC writes them, with the library's hash: what
// ours are held against. The one-time signatures below them are package ots's.

const private = 1<<32 - 1<<29

// heights has every type.
var heights = map[uint32]int{
	5: 5, 6: 10, 7: 15, 8: 20, 9: 25,
	private + 1: 1, private + 2: 2, private + 3: 3, private + 4: 4,
}

// noTypes are some numbers without a type of trees.
var noTypes = []uint32{
	0, 1, 2, 3, 4, 10, 11, 13, 15, 25, 256 + 5, 5 << 24, 1 << 31,
	1<<29 + 1, private - 1, private, private + 5, private + 6, private + 10, 1<<32 - 1,
}

// noOnes are some numbers without a type of one-time signatures.
var noOnes = []uint32{0, 5, 6, 256 + 1, 1 << 24, 1 << 31, private + 1, 1<<32 - 1}

// oneSizes has the bytes that each one-time signature has.
var oneSizes = map[uint32]int{1: 8516, 2: 4292, 3: 2180, 4: 1124}

// some returns n bytes without a short period.
func some(n int) []byte {
	p := make([]byte, n)
	x := uint32(n)*2654435761 + 1
	for i := range p {
		x = x*1664525 + 1013904223
		p[i] = byte(x >> 24)
	}
	return p
}

func digestOf(n int) api.Digest { return api.Digest(some(32 + n)[n:]) }

func idOf(n int) [16]byte { return [16]byte(some(16 + n)[n:]) }

func hashed(parts ...[]byte) api.Digest {
	return api.Digest(sha256.Sum256(bytes.Join(parts, nil)))
}

// begin is I || u32str(r) || u16str(mark).
func begin(id [16]byte, r uint32, mark int) []byte {
	p := binary.BigEndian.AppendUint32(id[:], r)
	return binary.BigEndian.AppendUint16(p, uint16(mark))
}

func leafOf(id [16]byte, r uint32, k api.Digest) api.Digest {
	return hashed(begin(id, r, 0x8282), k[:])
}

func nodeOf(id [16]byte, r uint32, a, b api.Digest) api.Digest {
	return hashed(begin(id, r, 0x8383), a[:], b[:])
}

// tree is a private key.
type tree struct {
	t, ots uint32
	id     [16]byte
	seed   api.Digest
}

// treeOf returns one of many trees of the types.
func treeOf(t, ots uint32, n int) tree { return tree{t, ots, idOf(n), digestOf(n + 1)} }

func (x tree) leaves() uint32 { return 1 << heights[x.t] }

// node returns the value of node r, as the RFC's section 5.3 defines it.
func (x tree) node(r uint32) api.Digest {
	if r >= x.leaves() {
		k, _ := ots.Public(x.ots, ots.Site{ID: x.id, Q: r - x.leaves()}, x.seed)
		return leafOf(x.id, r, k)
	}
	return nodeOf(x.id, r, x.node(2*r), x.node(2*r+1))
}

// pub returns a public key of the tree's types with a root.
func (x tree) pub(root api.Digest) []byte {
	p := binary.BigEndian.AppendUint32(nil, x.t)
	p = binary.BigEndian.AppendUint32(p, x.ots)
	return append(append(p, x.id[:]...), root[:]...)
}

// path returns the nodes beside the way from leaf q up.
func (x tree) path(q uint32) []api.Digest {
	var l []api.Digest
	for r := x.leaves() + q; r > 1; r /= 2 {
		l = append(l, x.node(r^1))
	}
	return l
}

// sign returns u32str(q) || the one-time signature || u32str(type) || path.
func (x tree) sign(q uint32, c api.Digest, msg []byte) []byte {
	one, _ := ots.Sign(x.ots, ots.Site{ID: x.id, Q: q}, x.seed, c, msg)
	return joined(q, one, x.t, x.path(q))
}

func joined(q uint32, one []byte, t uint32, path []api.Digest) []byte {
	sig := binary.BigEndian.AppendUint32(nil, q)
	sig = append(sig, one...)
	sig = binary.BigEndian.AppendUint32(sig, t)
	for _, x := range path {
		sig = append(sig, x[:]...)
	}
	return sig
}

// claimed is the RFC's algorithm 6a.
func (x tree) claimed(q uint32, one []byte, path []api.Digest, msg []byte) api.Digest {
	k, _ := ots.Claim(ots.Site{ID: x.id, Q: q}, one, msg)
	num := x.leaves() + q
	tmp := leafOf(x.id, num, k)
	for i := 0; num > 1; i++ {
		if num%2 == 1 {
			tmp = nodeOf(x.id, num/2, path[i], tmp)
		} else {
			tmp = nodeOf(x.id, num/2, tmp, path[i])
		}
		num /= 2
	}
	return tmp
}

// oneOf returns a one-time signature of a type that nobody made.
func oneOf(t uint32, n int) []byte {
	return append(binary.BigEndian.AppendUint32(nil, t), some(oneSizes[t] - 4 + n)[n:]...)
}

// pathOf returns the path of a tree that nobody grew.
func pathOf(height, n int) []api.Digest {
	var l []api.Digest
	for i := range height {
		l = append(l, digestOf(n+i))
	}
	return l
}

func (x tree) signer(t *testing.T) *lms.Signer {
	t.Helper()
	s, e := lms.New(x.t, x.ots, x.id, x.seed)
	if e != api.OK || s == nil {
		t.Fatalf("types %x and %d: error %d", x.t, x.ots, e)
	}
	return s
}

// signed returns a signature of s.
func signed(t *testing.T, s *lms.Signer, c api.Digest, msg []byte) []byte {
	t.Helper()
	sig, e := s.Sign(c, msg)
	if e != api.OK {
		t.Fatalf("error %d", e)
	}
	return sig
}

// forced returns a signature of s with leaf q.
func forced(t *testing.T, s *lms.Signer, q uint32, c api.Digest, msg []byte) []byte {
	t.Helper()
	sig, e := s.Force(q, c, msg)
	if e != api.OK {
		t.Fatalf("leaf %d: error %d", q, e)
	}
	return sig
}
