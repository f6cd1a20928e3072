package proof

import (
	"bytes"

	"curtilage/api"
	"curtilage/lms"
	"curtilage/ots"
	"curtilage/sha"
)

// What tells the texts that are hashed apart (RFC 8554): two bytes in the place
// of a chain's number.
const (
	publicMark  = 0x8080
	messageMark = 0x8181
	leafMark    = 0x8282
	innerMark   = 0x8383
)

// How many bytes of a public key there are before what: its types come first.
const (
	kindBegin = 4
	idBegin   = 8
	idEnd     = 24
)

// holder is a signer, and what its public key tells: how high its tree is, how
// a leaf signs, and the tree's identifier.
type holder struct {
	*lms.Signer
	height int
	shape  ots.Param
	id     [16]byte
}

// hold returns the holder of s, or false if there is no s.
func hold(s *lms.Signer) (holder, bool) {
	pub := s.Public()
	if len(pub) < idEnd {
		return holder{}, false
	}
	h := holder{Signer: s, id: [16]byte(pub[idBegin:idEnd])}
	h.height, _ = lms.Height(word(pub))
	h.shape, _ = ots.Params(word(pub[kindBegin:]))
	return h, true
}

// site returns where leaf q signs.
func (h holder) site(q uint32) ots.Site { return ots.Site{ID: h.id, Q: q} }

// end returns the last position of a chain.
func (h holder) end() int { return 1<<h.shape.W - 1 }

// has tells whether there is such a leaf, chain and position.
func (h holder) has(p lms.Place) bool {
	return p.Q>>h.height == 0 && p.I >= 0 && p.I < h.shape.P && p.J >= 0 && p.J <= h.end()
}

// signature is a signature taken apart, with the message that it signs: chain i
// has its value at the position digits[i], and goes on up to end.
type signature struct {
	ots.Site
	c            api.Digest
	msg          []byte
	digits       []int
	end          int
	values, path []api.Digest
}

// read takes a signature apart that leads to h's root.
func (h holder) read(msg, sig []byte) signature {
	q, one, _, path, _ := lms.Parts(sig)
	kind, c, values, _ := ots.Split(one)
	at := h.site(q)
	return signature{
		Site:   at,
		c:      c,
		msg:    msg,
		digits: ots.Digits(kind, ots.Mash(at, c, msg)),
		end:    h.end(),
		values: values,
		path:   path,
	}
}

// texts returns what is hashed on the way to the root, each text ahead of the
// one that its hash is a part of: chain by chain, the chains' ends, the leaf,
// and the nodes from the leaf up.
func (s signature) texts() [][]byte {
	var l [][]byte
	hash := func(parts ...[]byte) api.Digest {
		text := bytes.Join(parts, nil)
		l = append(l, text)
		return sha.Sum(text)
	}
	var ends []byte
	for i, x := range s.values {
		for j := s.digits[i]; j < s.end; j++ {
			x = hash(head(s.Site, i), []byte{byte(j)}, x[:])
		}
		ends = append(ends, x[:]...)
	}
	x := hash(head(s.Site, publicMark), ends)
	node := ots.Site{ID: s.ID, Q: 1<<len(s.path) + s.Q}
	x = hash(head(node, leafMark), x[:])
	for _, beside := range s.path {
		left, right := x, beside
		if node.Q%2 == 1 {
			left, right = beside, x
		}
		node.Q /= 2
		x = hash(head(node, innerMark), left[:], right[:])
	}
	return l
}

// messageText returns what is hashed of a message.
func messageText(at ots.Site, c api.Digest, msg []byte) []byte {
	return bytes.Join([][]byte{head(at, messageMark), c[:], msg}, nil)
}

// head returns what a text begins with: the tree, the number of a leaf or of a
// node, and two bytes.
func head(at ots.Site, n int) []byte {
	return append(at.ID[:], byte(at.Q>>24), byte(at.Q>>16), byte(at.Q>>8), byte(at.Q), byte(n>>8), byte(n))
}

// word reads the first four bytes of p, big-endian.
func word(p []byte) uint32 {
	return uint32(p[0])<<24 | uint32(p[1])<<16 | uint32(p[2])<<8 | uint32(p[3])
}
