package journal

import (
	"bytes"

	"curtilage/api"
	"curtilage/flash"
	"curtilage/otp"
)

// The kinds of operations.
const (
	Erase = 1
	Write = 2
	Burn  = 3
)

// Op is an operation: a page to erase, bytes to write at a place of a page, or
// a word of the fuses and what it becomes.
type Op struct {
	Kind  byte
	Page  int
	At    int
	Bytes []byte
	Word  int
	Value uint32
}

// Do executes the operations in order, up to the first error. Each is a Tear
// that misses no bit.
func Do(f *flash.Flash, c *otp.Chip, l ...Op) api.Errno {
	for _, o := range l {
		if e := Tear(f, c, o, bytes.Repeat([]byte{0xff}, api.Page)); e != api.OK {
			return e
		}
	}
	return api.OK
}

// Tear is a Do of one operation that the power fails in: of the bits that it
// would change, it changes those that mask has.
func Tear(f *flash.Flash, c *otp.Chip, o Op, mask []byte) api.Errno {
	switch o.Kind {
	case Erase, Write:
		want, e := o.after(f)
		if e != api.OK {
			return e
		}
		return f.Tear(o.Page, want, mask)
	case Burn:
		return c.Tear(otp.Write{Word: o.Word, Value: o.Value}, number(mask))
	}
	return api.ErrArg
}

// after returns the page as an operation leaves it, or nothing if it changes
// nothing.
func (o Op) after(f *flash.Flash) ([]byte, api.Errno) {
	if o.Kind == Erase {
		return f.After(o.Page, 0, nil)
	}
	want, e := f.After(o.Page, o.At, o.Bytes)
	if len(o.Bytes) == 0 { // for After that is an erasure
		return nil, e
	}
	return want, e
}
