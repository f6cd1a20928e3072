package engine

import (
	"bytes"

	"curtilage/api"
	"curtilage/flash"
	"curtilage/grant"
	"curtilage/otp"
)

// wordSize is how many bytes a word has, of the fuses and of the core.
const wordSize = 4

// Space is the memory behind layer 14's addresses. Who may do what there hangs
// on its stage.
type Space struct {
	Stage int
	RAM   [api.RAM]byte
	Port  [64]byte
	Flash *flash.Flash
	Chip  *otp.Chip
}

// NewSpace returns a space in stage 0 whose own bytes are all zero.
func NewSpace(f *flash.Flash, c *otp.Chip) *Space {
	return &Space{Flash: f, Chip: c}
}

// Load returns n bytes from at on.
func (s *Space) Load(who int, at uint32, n int) ([]byte, api.Errno) {
	switch {
	case s == nil:
		return nil, api.ErrNone
	case n < 0:
		return nil, api.ErrArg
	case n == 0:
		return nil, api.OK
	}
	a := grant.Access{Who: who, Stage: s.Stage, At: at, Size: 1}
	region, offset, e := find(a, n)
	if e != api.OK {
		return nil, e
	}
	return s.read(region, offset, n)
}

// Store writes the bytes of p from at on.
func (s *Space) Store(who int, at uint32, p []byte) api.Errno {
	switch {
	case s == nil:
		return api.ErrNone
	case len(p) == 0:
		return api.OK
	}
	a := grant.Access{Who: who, Stage: s.Stage, At: at, Size: 1, Write: true}
	region, offset, e := find(a, len(p))
	if e != api.OK {
		return e
	}
	return s.write(region, offset, p)
}

// Fetch returns the word at at that the core would execute.
func (s *Space) Fetch(at uint32) (uint32, api.Errno) {
	if s == nil {
		return 0, api.ErrNone
	}
	a := grant.Access{Who: api.Core, Stage: s.Stage, At: at, Size: wordSize, Fetch: true}
	region, offset, e := find(a, wordSize)
	if e != api.OK {
		return 0, e
	}
	p, e := s.read(region, offset, wordSize)
	if e != api.OK {
		return 0, e
	}
	return uint32(p[0]) | uint32(p[1])<<8 | uint32(p[2])<<16 | uint32(p[3])<<24, api.OK
}

// find returns the region of an access and its offset there, if the n bytes
// from there on are all in that region.
func find(a grant.Access, n int) (int, int, api.Errno) {
	region, offset, e := grant.Check(a)
	if e != api.OK {
		return grant.None, 0, e
	}
	if _, size := grant.Base(region); n > size-offset {
		return grant.None, 0, api.ErrMap
	}
	return region, offset, api.OK
}

// read returns n bytes of a region that has them.
func (s *Space) read(region, offset, n int) ([]byte, api.Errno) {
	switch region {
	case grant.Store:
		return s.Flash.Read(offset, n)
	case grant.Fuses:
		return s.readFuses(offset, n)
	}
	return bytes.Clone(s.memory(region)[offset:][:n]), api.OK
}

// write writes p in a region that has room for it.
func (s *Space) write(region, offset int, p []byte) api.Errno {
	switch region {
	case grant.Store:
		return s.Flash.Write(offset, p)
	case grant.Fuses:
		return s.writeFuses(offset, p)
	}
	copy(s.memory(region)[offset:], p)
	return api.OK
}

// memory returns the bytes of a region that the space keeps itself: its own.
func (s *Space) memory(region int) []byte {
	switch region {
	case grant.Code:
		return s.RAM[:api.Exec]
	case grant.Data:
		return s.RAM[api.Exec:]
	case grant.Port:
		return s.Port[:]
	}
	return nil
}

// readFuses returns n bytes of the fuses' words, if none of these is locked.
func (s *Space) readFuses(offset, n int) ([]byte, api.Errno) {
	p := make([]byte, 0, n)
	for i := offset; i < offset+n; i++ {
		w, e := s.Chip.Read(i / wordSize)
		if e != api.OK {
			return nil, e
		}
		p = append(p, bigEndian(w)[i%wordSize])
	}
	return p, api.OK
}

// writeFuses programs whole words, up to the first error.
func (s *Space) writeFuses(offset int, p []byte) api.Errno {
	if offset%wordSize != 0 || len(p)%wordSize != 0 {
		return api.ErrAlign
	}
	var l []otp.Write
	for i := 0; i < len(p); i += wordSize {
		v := uint32(p[i])<<24 | uint32(p[i+1])<<16 | uint32(p[i+2])<<8 | uint32(p[i+3])
		l = append(l, otp.Write{Word: (offset + i) / wordSize, Value: v})
	}
	return s.Chip.Do(l...)
}

// bigEndian returns the bytes of a word.
func bigEndian(w uint32) [wordSize]byte {
	return [...]byte{byte(w >> 24), byte(w >> 16), byte(w >> 8), byte(w)}
}
