package engine

import (
	"curtilage/api"
	"curtilage/slot"
)

// slots returns the engine's slots, or nil ones for a nil engine.
func (e *Engine) slots() *slot.Slots {
	if e == nil {
		return nil
	}
	return e.Slots
}

// Lay and the following are the slots' methods. A nil engine has no slots of
// which they could be promoted: here they answer for it as for nil slots.
func (e *Engine) Lay(h, kind int, key api.Digest) api.Errno { return e.slots().Lay(h, kind, key) }

// Kind returns the kind of the key in a place, or 0 if there is none.
func (e *Engine) Kind(h int) int { return e.slots().Kind(h) }

// Derive stores in an empty place what another place's key leads to.
func (e *Engine) Derive(from, to int, label string, parts ...[]byte) api.Errno {
	return e.slots().Derive(from, to, label, parts...)
}

// Mac returns the MAC of the concatenated parts with the key of a place.
func (e *Engine) Mac(h int, parts ...[]byte) (api.Digest, api.Errno) {
	return e.slots().Mac(h, parts...)
}

// Cipher returns what a mode makes of p with the key of a place.
func (e *Engine) Cipher(h int, kind int, back bool, start api.Block, p []byte) ([]byte, api.Errno) {
	return e.slots().Cipher(h, kind, back, start, p)
}

// Wipe empties these places and returns how many were not empty.
func (e *Engine) Wipe(l ...int) int { return e.slots().Wipe(l...) }

// Lock keeps further keys of the chip from being stored.
func (e *Engine) Lock() { e.slots().Lock() }

// Locked tells whether Lock was called.
func (e *Engine) Locked() bool { return e.slots().Locked() }

// Count returns how many places are not empty.
func (e *Engine) Count() int { return e.slots().Count() }

// Kill empties all places for good.
func (e *Engine) Kill() { e.slots().Kill() }

// Dead tells whether Kill was called.
func (e *Engine) Dead() bool { return e.slots().Dead() }
