package otp_test

import (
	"bytes"
	"math"
	"math/bits"
	"math/rand"
	"slices"
	"testing"

	"curtilage/api"
	"curtilage/otp"
)

func TestTheExample(t *testing.T) {
	l, e := otp.New().ToCounter(3)
	planned(t, l, e, otp.Write{Word: 1, Value: 7})
}

func TestToLife(t *testing.T) {
	for _, torn := range []uint32{0, 0x01010101, 0x0f0f0f0f, 0x80402010, 0x78000000} {
		for present := api.Raw; present <= api.Scrap; present++ {
			w := store{torn}
			if present > api.Raw {
				w[0] |= 0xf8 << (8 * (present - 1)) // on, but not complete
			}
			if w.life() != present {
				t.Fatalf("life %d", w.life())
			}
			c := chipOf(t, w)
			for life := api.Dev; life <= api.Scrap; life++ {
				l, e := c.ToLife(life)
				if life <= present {
					refused(t, l, e, api.ErrState)
					continue
				}
				planned(t, l, e, otp.Write{Word: 0, Value: w[0] | 0xff<<(8*(life-1))})
				d := chipOf(t, w)
				answered(t, d.Do(l...), api.OK)
				if d.Life() != life {
					t.Errorf("life %d, not %d", d.Life(), life)
				}
				shown(t, d, w.set(0, 8*(life-1), 8))
				l, e = d.ToLife(life)
				refused(t, l, e, api.ErrState)
			}
			shown(t, c, w)
		}
	}
}

func TestToLivesThatThereAreNot(t *testing.T) {
	for _, w := range []store{{}, {0xff}, {math.MaxUint32}} {
		for _, life := range append([]int{0, 5, 6, 7, 8}, outside...) {
			l, e := chipOf(t, w).ToLife(life)
			refused(t, l, e, api.ErrArg)
		}
	}
}

func TestToCounter(t *testing.T) {
	for from := range 256 {
		w := store{}.set(1, 0, from).set(0, 0, 5).set(9, 0, 9)
		if from == 0 {
			w[8] = 1 << 31 // no part of the counter: it stays
		}
		c := chipOf(t, w)
		for n := range 256 {
			l, e := c.ToCounter(n)
			if n < from {
				refused(t, l, e, api.ErrOld)
				continue
			}
			planned(t, l, e, w.to(w.set(1, 0, n))...)
			d := chipOf(t, w)
			if e := d.Do(l...); e != api.OK || d.Counter() != n || storeOf(t, d) != w.set(1, 0, n) {
				t.Fatalf("from %d to %d: error %d, %d", from, n, e, d.Counter())
			}
			if l, e := d.ToCounter(n); e != api.OK || len(l) != 0 {
				t.Fatalf("at %d: error %d, %x", n, e, l)
			}
		}
	}
}

func TestToCountersThatThereAreNot(t *testing.T) {
	for _, n := range []int{0, 5, 255} {
		for _, to := range outside {
			l, e := chipOf(t, store{}.set(1, 0, n)).ToCounter(to)
			refused(t, l, e, api.ErrArg)
		}
	}
}

// A torn counter is not below the old one nor above the new one, and the plan
// for the new one, or for a greater one, leads there.
func TestTornCounters(t *testing.T) {
	r := rand.New(rand.NewSource(11))
	for range 3000 {
		from := r.Intn(256)
		n := from + r.Intn(256-from)
		w := store{}.set(1, 0, from)
		c := chipOf(t, w)
		for range r.Intn(4) {
			l, e := c.ToCounter(n)
			answered(t, e, api.OK)
			if len(l) == 0 {
				break
			}
			k := r.Intn(len(l))
			before := c.Counter()
			answered(t, c.Do(l[:k]...), api.OK)
			answered(t, c.Tear(l[k], r.Uint32()), api.OK)
			if got := c.Counter(); got < before || got > n {
				t.Fatalf("%d behind %d, on the way to %d", got, before, n)
			}
		}
		torn := storeOf(t, c)
		to := n + r.Intn(256-n)
		l, e := c.ToCounter(to)
		planned(t, l, e, torn.to(torn.set(1, 0, to))...)
		answered(t, c.Do(l...), api.OK)
		shown(t, c, w.set(1, 0, to))
		if c.Counter() != to {
			t.Fatalf("%d, not %d", c.Counter(), to)
		}
	}
}

// Bits that a tear has left further up are kept: there is no way back.
func TestTornCounterToLess(t *testing.T) {
	c := otp.New()
	answered(t, c.Tear(otp.Write{Word: 1, Value: 0xff}, 0xe0), api.OK)
	if c.Counter() != 0 {
		t.Errorf("%d", c.Counter())
	}
	l, e := c.ToCounter(3)
	planned(t, l, e, otp.Write{Word: 1, Value: 0xe7})
	answered(t, c.Do(l...), api.OK)
	if c.Counter() != 3 {
		t.Errorf("%d", c.Counter())
	}
}

func TestToKey(t *testing.T) {
	for n := range 30 {
		pub, id := some(56 + n)[n:], idOf(n)
		want := store{}.with(9, pub).with(23, id[:])
		c := otp.New()
		l, e := c.ToKey(pub, id)
		planned(t, l, e, store{}.to(want)...)
		answered(t, c.Do(l...), api.OK)
		shown(t, c, want)
		if !bytes.Equal(c.Key(), pub) || c.ID() != id || c.Life() != api.Raw {
			t.Errorf("key %x, number %x", c.Key(), c.ID())
		}
		l, e = c.ToKey(pub, id)
		planned(t, l, e)
	}
	l, e := otp.New().ToKey(make([]byte, 56), [16]byte{})
	planned(t, l, e)
	l, e = otp.New().ToKey(append(make([]byte, 55), 1), [16]byte{4: 2})
	planned(t, l, e, otp.Write{Word: 22, Value: 1}, otp.Write{Word: 24, Value: 2 << 24})
}

func TestToKeyOfPartsThatAreThere(t *testing.T) {
	r := rand.New(rand.NewSource(12))
	pub, id := some(56), idOf(3)
	want := store{}.with(9, pub).with(23, id[:])
	for range 300 {
		w := want
		for i := 9; i < 27; i++ {
			switch r.Intn(3) {
			case 0:
				w[i] &= r.Uint32()
			case 1:
				w[i] = 0
			}
		}
		rest := w.set(1, 0, 9).set(0, 0, 4).set(27, 0, 100) // bits of other things
		c := chipOf(t, rest)
		l, e := c.ToKey(pub, id)
		planned(t, l, e, w.to(want)...)
		answered(t, c.Do(l...), api.OK)
		shown(t, c, want.set(1, 0, 9).set(0, 0, 4).set(27, 0, 100))
	}
}

func TestToKeyOfBitsThatItLacks(t *testing.T) {
	pub, id := some(56), idOf(3)
	want := store{}.with(9, pub).with(23, id[:])
	for i := range 64 * 32 {
		w := store{}.set(0, i, 1)
		l, e := chipOf(t, w).ToKey(pub, id)
		if i/32 >= 9 && i/32 < 27 && want[i/32]>>(i%32)&1 == 0 {
			refused(t, l, e, api.ErrFuse)
			continue
		}
		next := w
		copy(next[9:27], want[9:27])
		planned(t, l, e, w.to(next)...)
	}
}

func TestOrderOfErrorsOfToKey(t *testing.T) {
	for life := api.Raw; life <= api.Scrap; life++ {
		blank := store{}
		if life > api.Raw {
			blank = blank.set(0, 8*(life-1), 5)
		}
		full := blank.set(9, 0, 18*32)
		for _, n := range []int{0, 1, 55, 57, 60, 112} {
			for _, w := range []store{blank, full} {
				l, e := chipOf(t, w).ToKey(make([]byte, n), [16]byte{})
				refused(t, l, e, api.ErrArg)
			}
		}
		for _, w := range []store{blank, full} {
			l, e := chipOf(t, w).ToKey(make([]byte, 56), [16]byte{})
			switch {
			case life > api.Raw:
				refused(t, l, e, api.ErrState)
			case w == full:
				refused(t, l, e, api.ErrFuse)
			default:
				planned(t, l, e)
			}
		}
	}
	// A life that is not reached yet is none.
	l, e := chipOf(t, store{0x0f0f0f0f}).ToKey(some(56), idOf(1))
	if e != api.OK || len(l) != 18 {
		t.Errorf("error %d, %x", e, l)
	}
}

// rowPlan is the document's plan for a row.
func rowPlan(i int, key api.Digest) []otp.Write {
	l := []otp.Write{{Word: 35 + 9*i, Value: 0xff0000}}
	w := store{}.with(27+9*i, key[:])
	for k := 27 + 9*i; k < 35+9*i; k++ {
		l = append(l, otp.Write{Word: k, Value: w[k]})
	}
	return append(l, otp.Write{Word: 35 + 9*i, Value: 0xff00ff})
}

func TestToRow(t *testing.T) {
	for i := range 4 {
		for _, key := range []api.Digest{{}, {31: 1}, {0: 0x80}, digestOf(i), api.Digest(bytes.Repeat([]byte{0xff}, 32))} {
			c := otp.New()
			l, e := c.ToRow(i, key)
			planned(t, l, e, rowPlan(i, key)...)
			answered(t, c.Do(l...), api.OK)
			want := store{}.with(27+9*i, key[:]).set(35+9*i, 0, 8).set(35+9*i, 16, 8)
			shown(t, c, want)
			if got, e := c.Row(i); got != key || e != api.OK {
				t.Errorf("row %d: error %d, %x", i, e, got)
			}
			l, e = c.ToRow(i, key)
			refused(t, l, e, api.ErrState)
		}
	}
}

func TestToRowOfOneThatIsNotEmpty(t *testing.T) {
	for bit := range 64 * 32 {
		c := chipOf(t, store{}.set(0, bit, 1))
		for i := range 4 {
			l, e := c.ToRow(i, digestOf(i))
			if word := bit / 32; word >= 27+9*i && word < 36+9*i {
				refused(t, l, e, api.ErrState)
			} else {
				planned(t, l, e, rowPlan(i, digestOf(i))...)
			}
		}
	}
}

func TestKill(t *testing.T) {
	for i := range 4 {
		for _, marks := range []uint32{0, 0xff0000, 0xff00ff, 0x0300ff, 0xff07ff, 0x1f00, 0xff1f1f, 0x7f00, 0xff000000} {
			key := digestOf(i)
			w := store{}.with(27+9*i, key[:])
			w[35+9*i] = marks
			c := chipOf(t, w)
			l, e := c.Kill(i)
			planned(t, l, e, otp.Write{Word: 35 + 9*i, Value: marks | 0xff00})
			answered(t, c.Do(l...), api.OK)
			shown(t, c, w.set(35+9*i, 8, 8))
			if key, e := c.Row(i); key != (api.Digest{}) || e != api.ErrDead {
				t.Errorf("row %d: error %d, %x", i, e, key)
			}
			l, e = c.Kill(i)
			planned(t, l, e)
			l, e = c.ToRow(i, key)
			refused(t, l, e, api.ErrState)
		}
	}
}

func TestDo(t *testing.T) {
	c := otp.New()
	answered(t, c.Do(), api.OK)
	answered(t, c.Do(otp.Write{Word: 5, Value: 1}, otp.Write{Word: 4, Value: 2}, otp.Write{Word: 5, Value: 3}), api.OK)
	shown(t, c, store{4: 2, 5: 3})
	for _, l := range []struct {
		bad  otp.Write
		want api.Errno
	}{
		{otp.Write{Word: 64, Value: 1}, api.ErrMap},
		{otp.Write{Word: -1, Value: 1}, api.ErrMap},
		{otp.Write{Word: math.MinInt, Value: 1}, api.ErrMap},
		{otp.Write{Word: 5, Value: 1}, api.ErrFuse},
		{otp.Write{Word: 4}, api.ErrFuse},
	} {
		c := chipOf(t, store{4: 2, 5: 3})
		answered(t, c.Do(l.bad), l.want)
		shown(t, c, store{4: 2, 5: 3})
		answered(t, c.Do(otp.Write{Word: 0, Value: 9}, l.bad, otp.Write{Word: 1, Value: 9}, otp.Write{Word: 64}), l.want)
		shown(t, c, store{0: 9, 4: 2, 5: 3}) // up to the error
	}
	c.Seal()
	answered(t, c.Do(otp.Write{Word: 30, Value: 9}), api.OK)
	if c.Words()[30] != 9 {
		t.Error("a locked word is not programmed")
	}
}

func TestTear(t *testing.T) {
	c := chipOf(t, store{5: 5})
	answered(t, c.Tear(otp.Write{Word: 5, Value: 4}, 4), api.ErrFuse)
	answered(t, c.Tear(otp.Write{Word: 64, Value: 4}, 4), api.ErrMap)
	answered(t, c.Tear(otp.Write{Word: -1, Value: 4}, 4), api.ErrMap)
	shown(t, c, store{5: 5})
	answered(t, c.Tear(otp.Write{Word: 5, Value: 15}, 0xf8), api.OK)
	shown(t, c, store{5: 13})
	answered(t, c.Tear(otp.Write{Word: 5, Value: 15}, 0), api.OK)
	shown(t, c, store{5: 13})
	c.Seal()
	answered(t, c.Tear(otp.Write{Word: 27, Value: 15}, 3), api.OK)
	if c.Words()[27] != 3 {
		t.Error("a locked word is not torn")
	}
}

// However a row is torn, it is valid only with its complete key, and is never
// empty again once its key is begun.
func TestTornRows(t *testing.T) {
	r := rand.New(rand.NewSource(13))
	for range 2000 {
		i, key := r.Intn(4), digestOf(r.Intn(100))
		c := otp.New()
		l, _ := c.ToRow(i, key)
		k, got := r.Intn(len(l)), r.Uint32()
		answered(t, c.Do(l[:k]...), api.OK)
		answered(t, c.Tear(l[k], got), api.OK)
		row, e := c.Row(i)
		if complete := k == 9 && bits.OnesCount32(got&0xff) >= 5; complete && (e != api.OK || row != key) || !complete && (e != api.ErrNone || row != api.Digest{}) {
			t.Fatalf("torn at %d by %x: error %d, %x", k, got, e, row)
		}
		again, e := c.ToRow(i, key)
		if k == 0 && got&0xff0000 == 0 {
			planned(t, again, e, l...)
		} else {
			refused(t, again, e, api.ErrState)
		}
		if kill, e := c.Kill(i); e != api.OK || c.Do(kill...) != api.OK {
			t.Fatalf("error %d", e)
		}
		if row, e := c.Row(i); e != api.ErrDead || row != (api.Digest{}) {
			t.Fatalf("killed: error %d, %x", e, row)
		}
	}
}

// seen is what a chip tells of a row without its words.
type seen struct {
	key              api.Digest
	row, to, kill    api.Errno
	toPlan, killPlan []otp.Write
	life, counter    int
	pub              []byte
	id               [16]byte
	reads            [9]api.Errno
	values           [9]uint32
}

// look returns what a chip tells of row i, whose words are read if they are sealed.
func look(c *otp.Chip, i int) seen {
	s := seen{life: c.Life(), counter: c.Counter(), pub: c.Key(), id: c.ID()}
	s.key, s.row = c.Row(i)
	s.toPlan, s.to = c.ToRow(i, digestOf(9))
	s.killPlan, s.kill = c.Kill(i)
	for k := range 9 {
		if c.Locked(27 + 9*i + k) {
			s.values[k], s.reads[k] = c.Read(27 + 9*i + k)
		}
	}
	return s
}

func (s seen) equal(o seen) bool {
	return s.key == o.key && s.row == o.row && s.to == o.to && s.kill == o.kill && s.life == o.life &&
		s.counter == o.counter && s.id == o.id && s.reads == o.reads && s.values == o.values &&
		slices.Equal(s.toPlan, o.toPlan) && slices.Equal(s.killPlan, o.killPlan) && bytes.Equal(s.pub, o.pub)
}

// Two chips that were treated alike, but for the key of a row that cannot be
// read, tell the same.
func TestUnreadableRowsTellNothing(t *testing.T) {
	r := rand.New(rand.NewSource(14))
	keys := []api.Digest{{}, {31: 1}, digestOf(1), digestOf(2), api.Digest(bytes.Repeat([]byte{0xff}, 32))}
	for range 500 {
		i, done, got := r.Intn(4), r.Intn(11), r.Uint32()
		dead, sealed := r.Intn(2) == 0, r.Intn(2) == 0
		var first seen
		for n, key := range keys {
			c := otp.New()
			l, _ := c.ToRow(i, key)
			answered(t, c.Do(l[:min(done, 10)]...), api.OK)
			if done < 10 {
				answered(t, c.Tear(l[done], got), api.OK)
			}
			if dead {
				kill, _ := c.Kill(i)
				answered(t, c.Do(kill...), api.OK)
			}
			if sealed {
				c.Seal()
			}
			s := look(c, i)
			if s.row == api.OK {
				break // this one may be read
			}
			if n == 0 {
				first = s
			} else if !s.equal(first) {
				t.Fatalf("row %d, %d done, dead %t, sealed %t: %v and %v", i, done, dead, sealed, s, first)
			}
		}
	}
}

// anyPlan returns a plan for something.
func anyPlan(c *otp.Chip, r *rand.Rand) []otp.Write {
	var l []otp.Write
	switch r.Intn(6) {
	case 0:
		l, _ = c.ToLife(r.Intn(6))
	case 1:
		l, _ = c.ToCounter(c.Counter() + r.Intn(40) - 3)
	case 2:
		l, _ = c.ToKey(some(56), idOf(r.Intn(2)))
	case 3:
		l, _ = c.ToRow(r.Intn(5), digestOf(r.Intn(5)))
	case 4:
		l, _ = c.Kill(r.Intn(5))
	case 5:
		l = []otp.Write{{Word: r.Intn(66) - 1, Value: r.Uint32()}} // of no plan
	}
	return l
}

// Whatever is done or torn in turn, nothing is rolled back.
func TestNothingIsRolledBack(t *testing.T) {
	r := rand.New(rand.NewSource(15))
	for range 300 {
		c := otp.New()
		for range 40 {
			before, life, counter := storeOf(t, c), c.Life(), c.Counter()
			l := anyPlan(c, r)
			k := r.Intn(len(l) + 1)
			c.Do(l[:k]...)
			if k < len(l) {
				c.Tear(l[k], r.Uint32())
			}
			after := storeOf(t, c)
			for i, v := range before {
				if v&^after[i] != 0 {
					t.Fatalf("word %d loses the bits %x", i, v&^after[i])
				}
			}
			if c.Life() < life || c.Counter() < counter {
				t.Fatalf("life %d, counter %d, after %d, %d", c.Life(), c.Counter(), life, counter)
			}
			shown(t, c, after)
		}
	}
}
