package otp

import "curtilage/api"

// ToLife returns what sets the field of a life completely.
func (c *Chip) ToLife(life int) ([]Write, api.Errno) {
	switch {
	case c.missing():
		return nil, api.ErrNone
	case life < api.Dev || life > api.Scrap:
		return nil, api.ErrArg
	case life <= c.Life():
		return nil, api.ErrState
	}
	return c.image().adding(Write{lifeAt, full(life - 1)}), api.OK
}

// ToCounter returns what makes the counter n.
func (c *Chip) ToCounter(n int) ([]Write, api.Errno) {
	switch {
	case c.missing():
		return nil, api.ErrNone
	case n < 0 || n > api.MaxVersion:
		return nil, api.ErrArg
	case n < c.Counter():
		return nil, api.ErrOld
	}
	var l []Write
	for i := range counterSize {
		l = append(l, Write{counterAt + i, low(n - wordBits*i)})
	}
	return c.image().adding(l...), api.OK
}

// low returns the lowest n bits of a word: none below 0, all above 32.
func low(n int) uint32 { return 1<<max(0, min(n, wordBits)) - 1 }

// ToKey returns what stores the public key and the chip's number.
func (c *Chip) ToKey(pub []byte, id [16]byte) ([]Write, api.Errno) {
	switch {
	case c.missing():
		return nil, api.ErrNone
	case len(pub) != publicSize:
		return nil, api.ErrArg
	case c.Life() != api.Raw:
		return nil, api.ErrState
	}
	w := c.image()
	l := append(pack(keyAt, pub), pack(idAt, id[:])...)
	for _, x := range l {
		if w[x.Word]&^x.Value != 0 {
			return nil, api.ErrFuse
		}
	}
	return w.adding(l...), api.OK
}

// ToRow returns what stores a key in a row. The row is marked before its key
// is begun and only valid once it is complete, so that a row that is torn is
// neither empty nor valid.
func (c *Chip) ToRow(i int, key api.Digest) ([]Write, api.Errno) {
	if e := c.checkRow(i); e != api.OK {
		return nil, e
	}
	if !c.image().empty(i) {
		return nil, api.ErrState
	}
	l := []Write{{marksAt(i), full(begun)}}
	l = append(l, pack(rowAt(i), key[:])...)
	return append(l, Write{marksAt(i), full(begun) | full(valid)}), api.OK
}

// Kill returns what makes a row dead.
func (c *Chip) Kill(i int) ([]Write, api.Errno) {
	if e := c.checkRow(i); e != api.OK {
		return nil, e
	}
	return c.image().adding(Write{marksAt(i), full(dead)}), api.OK
}

// adding returns the writes that set these bits too, without the words in
// which they are set already.
func (w *image) adding(l ...Write) []Write {
	var out []Write
	for _, x := range l {
		x.Value |= w[x.Word]
		if x.Value != w[x.Word] {
			out = append(out, x)
		}
	}
	return out
}

// pack returns the writes of whole words from word at on, big-endian.
func pack(at int, p []byte) []Write {
	var l []Write
	for ; len(p) >= 4; p = p[4:] {
		v := uint32(p[0])<<24 | uint32(p[1])<<16 | uint32(p[2])<<8 | uint32(p[3])
		l = append(l, Write{at + len(l), v})
	}
	return l
}
