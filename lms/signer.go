package lms

import (
	"bytes"

	"curtilage/api"
	"curtilage/ots"
)

// Signer is a tree of keys. The node r stands at index r of nodes; revealed
// has an entry for each leaf that Sign has used, which are the first ones.
type Signer struct {
	key
	seed     api.Digest
	nodes    []api.Digest
	revealed map[uint32]record
}

// record is what Sign has signed with a leaf, and from which position on that
// tells the values of each chain.
type record struct {
	c    api.Digest
	msg  []byte
	from []int
}

// New returns a signer whose keys come from the seed.
func New(t, ots uint32, id [16]byte, seed api.Digest) (*Signer, api.Errno) {
	s := &Signer{key: key{tree: t, ots: ots, id: id}, seed: seed, revealed: map[uint32]record{}}
	if e := s.check(); e != api.OK {
		return nil, e
	}
	if height, _ := Height(t); height > highest {
		return nil, api.ErrType
	}
	s.grow()
	return s, api.OK
}

// grow works out the tree, from the leaves to the root.
func (s *Signer) grow() {
	n := s.leaves()
	s.nodes = make([]api.Digest, 2*n)
	for q := range n {
		// The type has been checked: there is no error.
		k, _ := ots.Public(s.ots, s.site(q), s.seed)
		s.nodes[n+q] = Leaf(s.id, n+q, k)
	}
	for r := n - 1; r > 0; r-- {
		s.nodes[r] = Node(s.id, r, s.nodes[2*r], s.nodes[2*r+1])
	}
}

// missing tells whether there is no signer: nil, or one that New did not make.
func (s *Signer) missing() bool { return s == nil || s.nodes == nil }

// has tells whether there is a leaf q.
func (s *Signer) has(q uint32) bool { return !s.missing() && q < s.leaves() }

// Public returns the public key.
func (s *Signer) Public() []byte {
	if s.missing() {
		return nil
	}
	pub := make([]byte, publicSize)
	put(pub, s.tree)
	put(pub[wordSize:], s.ots)
	copy(pub[2*wordSize:], s.id[:])
	copy(pub[2*wordSize+idSize:], s.nodes[1][:])
	return pub
}

// Left returns how many leaves Sign has not used.
func (s *Signer) Left() int {
	if s.missing() {
		return 0
	}
	return int(s.leaves()) - len(s.revealed)
}

// Sign signs with the smallest unused leaf.
func (s *Signer) Sign(c api.Digest, msg []byte) ([]byte, api.Errno) {
	if s.missing() {
		return nil, api.ErrNone
	}
	if s.Left() == 0 {
		return nil, api.ErrUsed
	}
	q := uint32(len(s.revealed))
	s.revealed[q] = record{
		c:    c,
		msg:  bytes.Clone(msg),
		from: ots.Digits(s.ots, ots.Mash(s.site(q), c, msg)),
	}
	return s.signature(q, c, msg), api.OK
}

// Force signs with leaf q, used or not, and does not record it.
func (s *Signer) Force(q uint32, c api.Digest, msg []byte) ([]byte, api.Errno) {
	if s.missing() {
		return nil, api.ErrNone
	}
	if !s.has(q) {
		return nil, api.ErrArg
	}
	return s.signature(q, c, msg), api.OK
}

// signature returns that of msg with leaf q, which exists.
func (s *Signer) signature(q uint32, c api.Digest, msg []byte) []byte {
	one, _ := ots.Sign(s.ots, s.site(q), s.seed, c, msg)
	path := s.Path(q)
	sig := make([]byte, wordSize, 2*wordSize+len(one)+hashSize*len(path))
	put(sig, q)
	sig = append(sig, one...)
	sig = append(sig, make([]byte, wordSize)...)
	put(sig[len(sig)-wordSize:], s.tree)
	for _, x := range path {
		sig = append(sig, x[:]...)
	}
	return sig
}

// Signed tells whether Sign has signed msg.
func (s *Signer) Signed(msg []byte) bool {
	if s.missing() {
		return false
	}
	for _, r := range s.revealed {
		if bytes.Equal(r.msg, msg) {
			return true
		}
	}
	return false
}

// Knows tells whether a signature of Sign has revealed the value of a place,
// or one before it in its chain.
func (s *Signer) Knows(p Place) bool {
	if s.missing() {
		return false
	}
	// A leaf that Sign has not used has the zero record, without chains.
	r := s.revealed[p.Q]
	if p.I < 0 || p.I >= len(r.from) {
		return false
	}
	shape, _ := ots.Params(s.ots)
	return p.J >= r.from[p.I] && p.J < 1<<shape.W
}

// Path returns the nodes beside the way from leaf q to the root, from the leaf
// up, or nothing if there is no such leaf.
func (s *Signer) Path(q uint32) []api.Digest {
	if !s.has(q) {
		return nil
	}
	height, _ := Height(s.tree)
	path := make([]api.Digest, height)
	r := s.leaves() + q
	for i := range path {
		path[i] = s.nodes[r^1]
		r /= 2
	}
	return path
}

// Last returns the message that Sign signed with leaf q, and its C.
func (s *Signer) Last(q uint32) ([]byte, api.Digest) {
	if s.missing() {
		return nil, api.Digest{}
	}
	r := s.revealed[q]
	return bytes.Clone(r.msg), r.c
}
