package ots_test

import (
	"bytes"
	"crypto/sha256"
	"encoding/binary"
	"encoding/hex"
	"math/big"
	"testing"

	"curtilage/api"
	"curtilage/ots"
)

// The signatures once more, as the RFC writes them, with the library's hash and
// its whole numbers: what ours are held against.

// shape is a line of the RFC's table 1.
type shape struct {
	t        uint32
	w, p, ls int
}

var shapes = []shape{{1, 1, 265, 7}, {2, 2, 133, 6}, {3, 4, 67, 4}, {4, 8, 34, 0}}

// noTypes are some numbers without a type.
var noTypes = []uint32{0, 5, 6, 8, 256, 257, 1 << 24, 1<<24 + 4, 1 << 31, 1<<31 + 1, 1<<32 - 1}

// some returns n bytes without a short period.
func some(n int) []byte {
	p := make([]byte, n)
	x := uint32(n)*2654435761 + 1
	for i := range p {
		x = x*1664525 + 1013904223
		p[i] = byte(x >> 24)
	}
	return p
}

// digestOf returns one of many digests.
func digestOf(n int) api.Digest { return api.Digest(some(32 + n)[n:]) }

// siteOf returns one of many sites.
func siteOf(n int) ots.Site {
	return ots.Site{ID: [16]byte(some(16 + n)[n:]), Q: uint32(n) * 0x9e3779b1}
}

func bytesOf(t *testing.T, text string) []byte {
	t.Helper()
	p, err := hex.DecodeString(text)
	if err != nil {
		t.Fatal(err)
	}
	return p
}

func hashed(parts ...[]byte) api.Digest {
	return api.Digest(sha256.Sum256(bytes.Join(parts, nil)))
}

// begin is I || u32str(q) || u16str(n).
func begin(at ots.Site, n int) []byte {
	p := binary.BigEndian.AppendUint32(at.ID[:], at.Q)
	return binary.BigEndian.AppendUint16(p, uint16(n))
}

func stepped(at ots.Site, i, j int, x api.Digest) api.Digest {
	return hashed(begin(at, i), []byte{byte(j)}, x[:])
}

func chained(at ots.Site, i, from, to int, x api.Digest) api.Digest {
	for j := from; j < to; j++ {
		x = stepped(at, i, j, x)
	}
	return x
}

func secret(at ots.Site, i int, seed api.Digest) api.Digest {
	return hashed(begin(at, i), []byte{0xff}, seed[:])
}

func mashed(at ots.Site, c api.Digest, msg []byte) api.Digest {
	return hashed(begin(at, 0x8181), c[:], msg)
}

func folded(at ots.Site, l []api.Digest) api.Digest {
	p := begin(at, 0x8080)
	for _, d := range l {
		p = append(p, d[:]...)
	}
	return hashed(p)
}

// cut returns the digit i of p: p as one number, shifted.
func cut(p []byte, i, w int) int {
	n := new(big.Int).SetBytes(p)
	n.Rsh(n, uint(8*len(p)-w*(i+1)))
	return int(n.And(n, big.NewInt(1<<w-1)).Int64())
}

// digits returns the coefs of d || Cksm(d).
func (s shape) digits(d api.Digest) []int {
	sum := 0
	for i := range 256 / s.w {
		sum += 1<<s.w - 1 - cut(d[:], i, s.w)
	}
	text := binary.BigEndian.AppendUint16(d[:], uint16(sum<<s.ls))
	var l []int
	for i := range s.p {
		l = append(l, cut(text, i, s.w))
	}
	return l
}

func (s shape) public(at ots.Site, seed api.Digest) api.Digest {
	var ends []api.Digest
	for i := range s.p {
		ends = append(ends, chained(at, i, 0, 1<<s.w-1, secret(at, i, seed)))
	}
	return folded(at, ends)
}

func (s shape) sign(at ots.Site, seed, c api.Digest, msg []byte) []byte {
	sig := append(binary.BigEndian.AppendUint32(nil, s.t), c[:]...)
	for i, a := range s.digits(mashed(at, c, msg)) {
		y := chained(at, i, 0, a, secret(at, i, seed))
		sig = append(sig, y[:]...)
	}
	return sig
}

// length is how many bytes the RFC's table gives a signature.
func (s shape) length() int {
	return map[uint32]int{1: 8516, 2: 4292, 3: 2180, 4: 1124}[s.t]
}
