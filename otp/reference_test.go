package otp_test

import (
	"encoding/binary"
	"math"
	"slices"
	"testing"

	"curtilage/api"
	"curtilage/otp"
)

// The layout once more, bit by bit: what ours is held against.

// some returns n bytes without a short period.
func some(n int) []byte {
	p := make([]byte, n)
	x := uint32(n)*2654435761 + 1
	for i := range p {
		x = x*1664525 + 1013904223
		p[i] = byte(x >> 24)
	}
	return p
}

func digestOf(n int) api.Digest { return api.Digest(some(32 + n)[n:]) }

func idOf(n int) [16]byte { return [16]byte(some(16 + n)[n:]) }

// outside are numbers of nothing that there is.
var outside = []int{-1, -2, -4, -256, math.MinInt32, -1 << 32, math.MinInt, 256, 257, 4096, math.MaxInt32, 1 << 32, 1<<32 + 1, math.MaxInt}

// store is the contents of a chip.
type store [64]uint32

// bit tells whether a bit is set, counted from bit 0 of a word on.
func (w store) bit(word, i int) bool {
	return w[word+i/32]/(1<<(i%32))%2 == 1
}

// on tells whether five of the eight bits from some bit on are set.
func (w store) on(word, from int) bool {
	n := 0
	for i := range 8 {
		if w.bit(word, from+i) {
			n++
		}
	}
	return n >= 5
}

func (w store) life() int {
	life := 0
	for i := range 4 {
		if w.on(0, 8*i) {
			life = i + 1
		}
	}
	return life
}

func (w store) counter() int {
	n := 0
	for n < 255 && w.bit(1, n) {
		n++
	}
	return n
}

// text returns the bytes of words.
func (w store) text(from, words int) []byte {
	var p []byte
	for _, v := range w[from : from+words] {
		p = binary.BigEndian.AppendUint32(p, v)
	}
	return p
}

// row returns what Row answers of a row that is not sealed.
func (w store) row(i int) (api.Digest, api.Errno) {
	if w.on(35+9*i, 8) {
		return api.Digest{}, api.ErrDead
	}
	if !w.on(35+9*i, 0) {
		return api.Digest{}, api.ErrNone
	}
	return api.Digest(w.text(27+9*i, 8)), api.OK
}

// blank tells whether nothing of a row is set.
func (w store) blank(i int) bool {
	for _, v := range w[27+9*i : 36+9*i] {
		if v != 0 {
			return false
		}
	}
	return true
}

// set returns the contents with n more bits, from some bit on.
func (w store) set(word, from, n int) store {
	for i := from; i < from+n; i++ {
		w[word+i/32] |= 1 << (i % 32)
	}
	return w
}

// with returns the contents with p in the words from at on.
func (w store) with(at int, p []byte) store {
	for i := 0; i < len(p); i += 4 {
		w[at+i/4] = binary.BigEndian.Uint32(p[i:])
	}
	return w
}

// to returns the writes of the words that another store has otherwise, in turn.
func (w store) to(next store) []otp.Write {
	var l []otp.Write
	for i, v := range next {
		if w[i] != v {
			l = append(l, otp.Write{Word: i, Value: v})
		}
	}
	return l
}

// chipOf returns a chip with these contents.
func chipOf(t *testing.T, w store) *otp.Chip {
	t.Helper()
	c, e := otp.Of(w[:])
	if e != api.OK || c == nil {
		t.Fatalf("error %d", e)
	}
	return c
}

// storeOf returns what a chip has.
func storeOf(t *testing.T, c *otp.Chip) store {
	t.Helper()
	if l := c.Words(); len(l) != 64 {
		t.Fatalf("%d words", len(l))
	}
	return store(c.Words())
}

// answered holds that a call has answered so.
func answered(t *testing.T, got, want api.Errno) {
	t.Helper()
	if got != want {
		t.Errorf("error %d, not %d", got, want)
	}
}

// planned holds that a plan is this one.
func planned(t *testing.T, l []otp.Write, e api.Errno, want ...otp.Write) {
	t.Helper()
	if e != api.OK || !slices.Equal(l, want) {
		t.Errorf("error %d, %x, not %x", e, l, want)
	}
}

// refused holds that there is no plan, but an error.
func refused(t *testing.T, l []otp.Write, e, want api.Errno) {
	t.Helper()
	if e != want || len(l) != 0 {
		t.Errorf("error %d, not %d; %x", e, want, l)
	}
}

// shown holds that a chip that is not sealed shows these contents.
func shown(t *testing.T, c *otp.Chip, w store) {
	t.Helper()
	if got := storeOf(t, c); got != w {
		t.Fatalf("%x, not %x", got, w)
	}
	if c.Life() != w.life() || c.Counter() != w.counter() {
		t.Fatalf("life %d, counter %d, not %d, %d", c.Life(), c.Counter(), w.life(), w.counter())
	}
	if id := c.ID(); !slices.Equal(c.Key(), w.text(9, 14)) || !slices.Equal(id[:], w.text(23, 4)) {
		t.Fatalf("key %x, number %x", c.Key(), c.ID())
	}
	for i := range 4 {
		want, wantE := w.row(i)
		if got, e := c.Row(i); got != want || e != wantE {
			t.Fatalf("row %d: error %d, %x, not %d, %x", i, e, got, wantE, want)
		}
	}
}
