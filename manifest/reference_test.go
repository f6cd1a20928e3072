package manifest_test

import (
	"bytes"
	"crypto/sha256"
	"encoding/binary"
	"testing"

	"curtilage/api"
	"curtilage/lms"
	"curtilage/manifest"
)

// The images once more, put together by the library: what ours are held against.

// some returns n bytes without a short period.
func some(n int) []byte {
	p := make([]byte, n)
	x := uint32(n)*2654435761 + 1
	for i := range p {
		x = x*1664525 + 1013904223
		p[i] = byte(x >> 24)
	}
	return p
}

func digestOf(n int) api.Digest { return api.Digest(some(32 + n)[n:]) }

func hashed(p []byte) api.Digest { return api.Digest(sha256.Sum256(p)) }

// written returns the bytes of a body, whether there is such a manifest or not.
func written(version, size, entry uint32, d api.Digest) []byte {
	p := []byte{0x43, 0x55, 0x52, 0x54}
	for _, v := range []uint32{version, size, entry} {
		p = binary.BigEndian.AppendUint32(p, v)
	}
	return append(p, d[:]...)
}

func bodyOf(m manifest.Manifest) []byte {
	return written(uint32(m.Version), uint32(m.Size), uint32(m.Entry), m.Digest)
}

// joined returns an image, whose signature's length is counted by two bytes.
func joined(body, sig, payload []byte) []byte {
	p := binary.BigEndian.AppendUint16(bytes.Clone(body), uint16(len(sig)))
	return append(append(p, sig...), payload...)
}

// parsed is the document's Parse, step by step.
func parsed(body []byte) (manifest.Manifest, api.Errno) {
	if len(body) != 48 || string(body[:4]) != "CURT" {
		return manifest.Manifest{}, api.ErrForm
	}
	version := binary.BigEndian.Uint32(body[4:])
	size := binary.BigEndian.Uint32(body[8:])
	entry := binary.BigEndian.Uint32(body[12:])
	if version > 255 || size < 4 || size > 2048 || size%4 != 0 || entry%4 != 0 || entry >= size {
		return manifest.Manifest{}, api.ErrArg
	}
	return manifest.Manifest{
		Version: int(version),
		Size:    int(size),
		Entry:   int(entry),
		Digest:  api.Digest(body[16:]),
	}, api.OK
}

// read is the document's Read, step by step.
func read(image []byte) (manifest.Manifest, []byte, []byte, api.Errno) {
	if len(image) < 50 {
		return manifest.Manifest{}, nil, nil, api.ErrForm
	}
	m, e := parsed(image[:48])
	if e != api.OK {
		return manifest.Manifest{}, nil, nil, e
	}
	payload := 50 + int(binary.BigEndian.Uint16(image[48:]))
	if payload+m.Size > len(image) {
		return manifest.Manifest{}, nil, nil, api.ErrForm
	}
	return m, image[50:payload], image[payload : payload+m.Size], api.OK
}

// signer signs as many texts as one likes.
type signer struct {
	*lms.Signer
	pub []byte
}

func signerOf(t *testing.T, kind, ots uint32) signer {
	t.Helper()
	s, e := lms.New(kind, ots, [16]byte{byte(kind), byte(ots)}, digestOf(int(ots)))
	if e != api.OK {
		t.Fatalf("types %x and %d: error %d", kind, ots, e)
	}
	return signer{s, s.Public()}
}

// sign returns a signature of a text by leaf 0.
func (s signer) sign(t *testing.T, text []byte) []byte {
	t.Helper()
	sig, e := s.Force(0, digestOf(len(text)), text)
	if e != api.OK {
		t.Fatalf("error %d", e)
	}
	return sig
}

// image returns a signed image of m and the payload, true or not.
func (s signer) image(t *testing.T, m manifest.Manifest, payload []byte) []byte {
	t.Helper()
	body := bodyOf(m)
	return joined(body, s.sign(t, body), payload)
}
