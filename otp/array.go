package otp

import (
	"curtilage/api"
	"curtilage/fuse"
)

// fuses is the array of a chip, with its methods.
type fuses struct {
	*fuse.Array
}

// fuses returns the chip's array, or a nil one for a nil chip.
func (c *Chip) fuses() fuses {
	if c == nil {
		return fuses{}
	}
	return fuses{c.Array}
}

// Len and the following are the array's methods. A nil chip has no array of
// which they could be promoted: here they answer for it as for a nil array.
func (c *Chip) Len() int { return c.fuses().Len() }

// Read returns a word that is not locked.
func (c *Chip) Read(i int) (uint32, api.Errno) { return c.fuses().Read(i) }

// Program sets a word to v, locked or not.
func (c *Chip) Program(i int, v uint32) api.Errno { return c.fuses().Program(i, v) }

// Cut is a Program that the power fails in.
func (c *Chip) Cut(i int, v, got uint32) api.Errno { return c.fuses().Cut(i, v, got) }

// Lock makes a word unreadable for good.
func (c *Chip) Lock(i int) api.Errno { return c.fuses().Lock(i) }

// Locked tells whether a word is locked.
func (c *Chip) Locked(i int) bool { return c.fuses().Locked(i) }

// Words returns all words, also the locked ones.
func (c *Chip) Words() []uint32 { return c.fuses().Words() }

// Copy returns a copy of the array in which nothing is locked.
func (c *Chip) Copy() *fuse.Array { return c.fuses().Copy() }

// Set sets these bits, or none if one of them does not exist.
func (c *Chip) Set(l ...int) api.Errno { return c.fuses().Set(l...) }
