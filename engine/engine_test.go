package engine_test

import (
	"bytes"
	"encoding/hex"
	"math"
	"testing"

	"curtilage/api"
	"curtilage/engine"
	"curtilage/job"
	"curtilage/meas"
	"curtilage/slot"
)

// Where Data begins, and what lies around.
const (
	code  = 0x20000000
	data  = 0x20001000
	store = 0x10000000
	ports = 0x40000000
	fuses = 0x60000000
)

// rig is an engine in its space, and what they should be.
type rig struct {
	w *world
	s *engine.Space
	e *engine.Engine
}

// newRig returns an engine with a key of each kind, in places 0, 3 and 7.
func newRig(t *testing.T, stage int) rig {
	t.Helper()
	w := newWorld(stage, 40)
	w.key(0, 1, key(0))
	w.key(3, 2, key(3))
	w.key(7, 3, key(7))
	return rig{w, w.space(t), w.engine(t)}
}

// do executes a job, and holds what becomes of it.
func (r rig) do(t *testing.T, j job.Job) api.Errno {
	t.Helper()
	want := r.w.do(j)
	if got := r.e.Do(r.s, j); got != want {
		t.Errorf("%+v: error %d, not %d", j, got, want)
	}
	r.holds(t)
	if t.Failed() {
		t.Fatalf("%+v", j)
	}
	return want
}

// run executes a chain, and holds what becomes of it.
func (r rig) run(t *testing.T, at uint32) (int, api.Errno) {
	t.Helper()
	n, want := r.w.run(at)
	if got, e := r.e.Run(r.s, at); got != n || e != want {
		t.Errorf("%d jobs and error %d, not %d and %d", got, e, n, want)
	}
	r.holds(t)
	return n, want
}

// holds holds that space and engine are what they should be, but for the pool.
func (r rig) holds(t *testing.T) {
	t.Helper()
	same(t, r.s, r.w)
	works(t, r.e, r.w)
}

// put stores p in the RAM or the port, in any stage.
func (r rig) put(t *testing.T, at uint32, p []byte) {
	t.Helper()
	stage := r.w.stage
	r.w.stage, r.s.Stage = 0, 0
	must(t, r.w.store(api.ROM, at, p))
	must(t, r.s.Store(api.ROM, at, p))
	r.w.stage, r.s.Stage = stage, stage
}

// hexed holds that n bytes in Data are these.
func hexed(t *testing.T, s *engine.Space, at uint32, want string) {
	t.Helper()
	p, e := s.Load(api.DMA, at, len(want)/2)
	if hex.EncodeToString(p) != want || e != api.OK {
		t.Errorf("at %x: error %d, %x", at, e, p)
	}
}

func TestTheExample(t *testing.T) {
	r := newRig(t, 1)
	r.put(t, data, []byte("abc"))
	if e := r.do(t, job.Job{Kind: job.Sum, Src: data, Dst: data + 0x100, Len: 3}); e != api.OK {
		t.Errorf("error %d", e)
	}
	hexed(t, r.s, data+0x100, "ba7816bf8f01cfea414140de5dae2223b00361a396177a9cb410ff61f20015ad")
}

// What other programs have worked out, with the key 00 01 .. 1f.
func TestKnownAnswers(t *testing.T) {
	var k api.Digest
	for i := range k {
		k[i] = byte(i)
	}
	e := engine.New()
	must(t, e.Lay(2, 3, k))
	s := newWorld(1, 40).space(t)
	copy(s.RAM[4096:], "abcabcabcabcabcd")
	copy(s.RAM[4096+64:], " !\"#$%&'()*+,-./") // 20 21 .. 2f
	for _, c := range []struct {
		j    job.Job
		want string
	}{
		{job.Job{Kind: job.Mac, Handle: 2, Len: 3}, "f0133729c4163dede81e21cd47839256da58171238c8a0d874397c73b14e1e47"},
		{job.Job{Kind: job.Cipher, Handle: 2, Flags: 1, Len: 16}, "f16aa3306acc36f82637f988caf4a950"},
		{job.Job{Kind: job.Cipher, Handle: 2, Flags: 2, Len: 16}, "00c4f00f2cec717e7fa09bf0d420c3b0"},
		{job.Job{Kind: job.Derive, Handle: 2, To: 5, Len: 2}, ""},
		{job.Job{Kind: job.Mac, Handle: 5, Len: 3}, "83fedf0482b6d48c274d68e700084a36dc3056db648de5f4e00ea43dc291469f"},
		{job.Job{Kind: job.Extend, To: 2, Len: 3}, ""},
		{job.Job{Kind: job.Quote, Handle: 2, Len: 3}, "808b540284c03e981f7945a9f8054cb5d0bfdbe9baafffa4f9bfb4e4b40f1d54"},
		{job.Job{Kind: job.Copy, Len: 4}, "61626361"},
		{job.Job{Kind: job.Random, Len: 40}, "e0e5f12e7924be8b089fb92b01ec75c1252b65b040598e5875a80a2bca7cbd8e5e52217ac830de98"},
	} {
		c.j.Src, c.j.Dst, c.j.Aux = data, data+0x100, data+64
		if got := e.Do(s, c.j); got != api.OK {
			t.Errorf("%+v: error %d", c.j, got)
		}
		hexed(t, s, data+0x100, c.want)
	}
	if e.Keyed() != 6 {
		t.Errorf("%d jobs with keys", e.Keyed())
	}
}

func TestNew(t *testing.T) {
	e := engine.New()
	if e.Slots == nil || e.Meas != meas.New() || e.Keyed() != 0 || e.Count() != 0 || e.Locked() || e.Dead() {
		t.Error("a new engine is not blank")
	}
	drawsAlike(t, e, newWorld(1, 0))
	// Each call makes an engine of its own.
	other := engine.New()
	other.Stir(1)
	must(t, other.Lay(0, 1, key(0)))
	other.Kill()
	if e.Dead() || e.Count() != 0 {
		t.Error("two engines have one set of slots")
	}
	drawsAlike(t, engine.New(), newWorld(1, 0))
}

// What another program has worked out.
func TestKnownPools(t *testing.T) {
	e := engine.New()
	draws := func(n int, want string) {
		t.Helper()
		if got := hex.EncodeToString(e.Draw(n)); got != want {
			t.Errorf("%d bytes: %s", n, got)
		}
	}
	draws(40, "e0e5f12e7924be8b089fb92b01ec75c1252b65b040598e5875a80a2bca7cbd8e5e52217ac830de98")
	e.Stir([]byte("entropy")...)
	draws(3, "74d22d")
	draws(0, "")
	e.Stir()
	draws(33, "506369f0e4ebdb65f993c38955df9c1a84b68d3e44e6638efa88972881bcb4cfa0")
}

func TestStirAndDraw(t *testing.T) {
	e, w := engine.New(), newWorld(1, 0)
	for n := range 300 {
		p := some(n)
		e.Stir(p...)
		w.stir(p...)
		if !bytes.Equal(p, some(n)) {
			t.Error("the bytes have changed")
		}
		clear(p)
		if n%3 > 0 {
			drawsAlike(t, e, w)
		}
	}
	// In one call or in two: that is not the same.
	a, b := engine.New(), engine.New()
	a.Stir(1, 2)
	b.Stir(1)
	b.Stir(2)
	if bytes.Equal(a.Draw(32), b.Draw(32)) {
		t.Error("the calls are not told apart")
	}
}

// Draw of any number that there is; none draws, too. The others leave the pool.
func TestDraw(t *testing.T) {
	e, w := engine.New(), newWorld(1, 0)
	for n := range 1025 {
		if got, want := e.Draw(n), w.draw(n); !bytes.Equal(got, want) {
			t.Fatalf("%d bytes: %x", n, got)
		}
	}
	for _, n := range []int{-1, -2, -32, -1024, 1025, 1026, 2048, 1 << 20, math.MaxInt32, math.MinInt32, 1 << 32, 1<<32 + 5, math.MaxInt, math.MinInt} {
		if got := e.Draw(n); len(got) != 0 {
			t.Errorf("%d bytes: %d", n, len(got))
		}
		drawsAlike(t, e, w)
	}
}

// What was drawn is nobody else's, and nothing lies behind it.
func TestDrawnMemory(t *testing.T) {
	for n := range 100 {
		e := engine.New()
		p := e.Draw(n)
		behind := p[n:cap(p)]
		if !bytes.Equal(behind, make([]byte, len(behind))) {
			t.Errorf("%d bytes, then %x", n, behind)
		}
		for i := range p[:cap(p)] {
			p[:cap(p)][i] = 0xee
		}
		w := newWorld(1, 0)
		w.draw(n)
		drawsAlike(t, e, w)
	}
}

// Every kind, in every stage, with all lengths around the bounds.
func TestEachKind(t *testing.T) {
	for stage := range 3 {
		for kind := 1; kind <= 8; kind++ {
			r := newRig(t, stage)
			for _, n := range []uint32{0, 1, 15, 16, 17, 31, 32, 33, 55, 56, 63, 64, 65, 256, 1008, 1023, 1024, 1025} {
				for h := range byte(9) {
					j := job.Job{Kind: byte(kind), Handle: h, To: h, Len: n, Src: data + 5, Dst: data + 0x800, Aux: data + 0x700}
					r.do(t, j)
				}
			}
			drawsAlike(t, r.e, r.w)
		}
	}
}

// Every mode there is, and those that are none.
func TestCiphers(t *testing.T) {
	r := newRig(t, 1)
	for flags := range 256 {
		for _, n := range []uint32{0, 16, 32, 48, 1024, 8} {
			for h := range byte(9) {
				e := r.do(t, job.Job{Kind: job.Cipher, Handle: h, To: 9, Flags: byte(flags), Len: n, Src: data, Dst: data, Aux: data + 0x500})
				if (flags > 6 || flags == 3 || n == 8 || h > 7) != (e == api.ErrArg) {
					t.Fatalf("flags %d, place %d: error %d", flags, h, e)
				}
			}
		}
	}
}

// What is enciphered can be deciphered.
func TestCipherThereAndBack(t *testing.T) {
	for _, flags := range []byte{0, 1, 2} {
		r := newRig(t, 2)
		r.do(t, job.Job{Kind: job.Cipher, Handle: 3, Flags: flags, Len: 64, Src: store + 100, Dst: data + 8, Aux: store})
		r.do(t, job.Job{Kind: job.Cipher, Handle: 3, Flags: flags | 4, Len: 64, Src: data + 8, Dst: data + 0x100, Aux: store})
		p, e := r.s.Load(api.DMA, data+0x100, 64)
		if !bytes.Equal(p, r.w.flash[100:164]) || e != api.OK {
			t.Errorf("flags %d: error %d, %x", flags, e, p)
		}
	}
}

// Every place to every place, twice: the second time there is a key.
func TestDerive(t *testing.T) {
	for from := range byte(9) {
		for to := range byte(9) {
			r := newRig(t, 1)
			j := job.Job{Kind: job.Derive, Handle: from, To: to, Len: 20, Src: data, Dst: 3, Aux: 5}
			want := api.OK
			switch {
			case from > 7 || to > 7:
				want = api.ErrArg
			case from != 0 && from != 3 && from != 7:
				want = api.ErrNone
			case to == 0 || to == 3 || to == 7:
				want = api.ErrFull
			}
			answered(t, r.do(t, j), want)
			if want == api.OK {
				answered(t, r.do(t, j), api.ErrFull)
			}
		}
	}
}

// The input is one part: where its bytes are cut makes a difference.
func TestDeriveHasOnePart(t *testing.T) {
	r := newRig(t, 1)
	answered(t, r.do(t, job.Job{Kind: job.Derive, Handle: 0, To: 1, Len: 4, Src: data}), api.OK)
	s := slot.New()
	must(t, s.Lay(0, 1, key(0)))
	must(t, s.Derive(0, 1, "JOB", r.w.ram[4096:4100]))
	must(t, s.Derive(0, 2, "JOB", r.w.ram[4096:4098], r.w.ram[4098:4100]))
	a, e := s.Mac(1)
	must(t, e)
	b, e := r.e.Mac(1)
	must(t, e)
	c, e := s.Mac(2)
	must(t, e)
	if a != b || c == b {
		t.Errorf("%x, %x, %x", a, b, c)
	}
}

// Registers and quotes, the quotes' outputs among what is measured next.
func TestExtendAndQuote(t *testing.T) {
	r := newRig(t, 1)
	for i := range uint32(20) {
		answered(t, r.do(t, job.Job{Kind: job.Extend, To: byte(i % 4), Len: i * 7, Src: data + i, Dst: 1}), api.OK)
		answered(t, r.do(t, job.Job{Kind: job.Quote, Handle: 3, Len: i * 5, Src: data, Dst: data + i}), api.OK)
	}
	q, e := r.s.Load(api.DMA, data+0x400, 32)
	must(t, e)
	answered(t, r.do(t, job.Job{Kind: job.Quote, Handle: 3, Len: 32, Src: data + 0x400, Dst: data}), api.OK)
	k := key(3)
	if !meas.Check(k[:], q, r.e.Meas.All(), api.Digest(r.s.RAM[4096:])) {
		t.Error("the quote is none")
	}
	answered(t, r.do(t, job.Job{Kind: job.Extend, To: 4}), api.ErrArg)
}

// The accesses are the DMA's: what it may not read is no input, and what it may
// not write no place for an output.
func TestTheAccessesAreTheDMAs(t *testing.T) {
	for stage := range 3 {
		for kind := 1; kind <= 8; kind++ {
			for _, src := range []uint32{code, data, store, ports, fuses, 0} {
				for _, dst := range []uint32{code, data, store, ports, fuses, 0} {
					r := newRig(t, stage)
					for _, n := range []uint32{0, 16} {
						r.do(t, job.Job{Kind: byte(kind), Handle: 0, To: 1, Len: n, Src: src, Dst: dst, Aux: data})
						r.do(t, job.Job{Kind: byte(kind), Handle: 0, To: 2, Len: n, Src: data, Dst: data, Aux: src})
					}
					drawsAlike(t, r.e, r.w)
				}
			}
		}
	}
	r := newRig(t, 3) // no stage
	answered(t, r.do(t, job.Job{Kind: job.Copy, Src: data, Dst: data, Len: 1}), api.ErrArg)
	answered(t, r.do(t, job.Job{Kind: job.Random, Dst: data, Len: 1}), api.ErrArg)
	answered(t, r.do(t, job.Job{Kind: job.Copy, Src: data, Dst: data}), api.OK)
	drawsAlike(t, r.e, r.w)
}

// Of several errors, the first one counts: Right's, the input's, the start's,
// the kind's, the output's.
func TestTheOrderOfErrors(t *testing.T) {
	const end = data + 4096
	for i, c := range []struct {
		j    job.Job
		want api.Errno
	}{
		{job.Job{Kind: 0, Src: 1, Len: 5}, api.ErrArg},
		{job.Job{Kind: job.Copy, Src: 1, Len: 1025}, api.ErrLong},
		{job.Job{Kind: job.Copy, Src: 1, Len: 5, Next: 1}, api.ErrAlign},
		{job.Job{Kind: job.Mac, Handle: 1, Src: 1, Len: 5}, api.ErrMap},
		{job.Job{Kind: job.Mac, Handle: 1, Src: fuses, Len: 5}, api.ErrDenied},
		{job.Job{Kind: job.Mac, Handle: 1, Src: end - 4, Len: 5}, api.ErrMap},
		{job.Job{Kind: job.Mac, Handle: 1, Src: end - 5, Len: 5}, api.ErrNone},
		{job.Job{Kind: job.Mac, Handle: 0, Src: end - 5, Len: 5, Dst: code}, api.ErrDenied},
		{job.Job{Kind: job.Mac, Handle: 0, Src: end - 5, Len: 5, Dst: end - 31}, api.ErrMap},
		{job.Job{Kind: job.Mac, Handle: 0, Src: end - 5, Len: 5, Dst: end - 32}, api.OK},
		{job.Job{Kind: job.Cipher, Handle: 1, Src: 1, Len: 16, Aux: fuses}, api.ErrMap},
		{job.Job{Kind: job.Cipher, Handle: 1, Src: data, Len: 16, Aux: fuses}, api.ErrDenied},
		{job.Job{Kind: job.Cipher, Handle: 1, Src: data, Len: 16, Aux: end - 15}, api.ErrMap},
		{job.Job{Kind: job.Cipher, Handle: 1, Src: data, Len: 16, Aux: end - 16}, api.ErrNone},
		{job.Job{Kind: job.Cipher, Handle: 0, Src: data, Len: 16, Aux: end - 16}, api.ErrMap},
		{job.Job{Kind: job.Cipher, Handle: 0, Src: data, Len: 16, Aux: end - 16, Dst: code}, api.ErrDenied},
		{job.Job{Kind: job.Cipher, Handle: 0, Src: 1, Len: 0, Aux: end - 15, Dst: 1}, api.ErrMap},
		{job.Job{Kind: job.Cipher, Handle: 1, Src: 1, Len: 0, Aux: end - 16, Dst: 1}, api.ErrNone},
		{job.Job{Kind: job.Cipher, Handle: 0, Src: 1, Len: 0, Aux: end - 16, Dst: 1}, api.OK},
		{job.Job{Kind: job.Derive, Handle: 1, To: 3, Src: 1, Len: 16}, api.ErrMap},
		{job.Job{Kind: job.Derive, Handle: 1, To: 3, Src: data, Len: 16}, api.ErrNone},
		{job.Job{Kind: job.Derive, Handle: 0, To: 3, Src: data, Len: 16}, api.ErrFull},
		{job.Job{Kind: job.Quote, Handle: 1, Src: data, Len: 16, Dst: 1}, api.ErrNone},
		{job.Job{Kind: job.Quote, Handle: 0, Src: data, Len: 16, Dst: 1}, api.ErrMap},
		{job.Job{Kind: job.Sum, Src: 1, Len: 0, Dst: data}, api.OK},
		{job.Job{Kind: job.Sum, Src: 1, Len: 0, Dst: 1}, api.ErrMap},
		{job.Job{Kind: job.Copy, Src: 1, Len: 0, Dst: 1}, api.OK},
		{job.Job{Kind: job.Random, Src: 1, Len: 0, Dst: 1, Aux: 1}, api.OK},
		{job.Job{Kind: job.Random, Src: 1, Len: 4, Dst: end - 4}, api.OK},
		{job.Job{Kind: job.Random, Src: 1, Len: 4, Dst: end - 3}, api.ErrMap},
		{job.Job{Kind: job.Extend, Src: 1, Len: 4, Dst: end}, api.ErrMap},
		{job.Job{Kind: job.Extend, Src: data, Len: 4, Dst: end}, api.OK},
	} {
		r := newRig(t, 1)
		if got := r.do(t, c.j); got != c.want {
			t.Errorf("%d: error %d, not %d", i, got, c.want)
		}
		drawsAlike(t, r.e, r.w)
		answered(t, r.e.Do(nil, c.j), api.ErrNone)
	}
}

// A Random that fails has drawn nothing: the next one gets those bytes.
func TestAFailedRandomLeavesThePool(t *testing.T) {
	r := newRig(t, 1)
	r.e.Stir(1, 2, 3)
	want := newRig(t, 1)
	want.e.Stir(1, 2, 3)
	for _, j := range []job.Job{
		{Kind: job.Random, Len: 32, Dst: code},
		{Kind: job.Random, Len: 32, Dst: data - 1},
		{Kind: job.Random, Len: 32, Dst: 0},
		{Kind: job.Random, Len: 1025, Dst: data},
		{Kind: job.Random, Len: 32, Dst: data, Next: 2},
	} {
		if e := r.e.Do(r.s, j); e == api.OK {
			t.Errorf("%+v is done", j)
		}
		answered(t, r.e.Do(nil, j), api.ErrNone)
	}
	answered(t, r.e.Do(r.s, job.Job{Kind: job.Random, Len: 32, Dst: data}), api.OK)
	if p := want.e.Draw(32); !bytes.Equal(p, r.s.RAM[4096:4128]) {
		t.Errorf("%x", p)
	}
	if a, b := r.e.Draw(9), want.e.Draw(9); !bytes.Equal(a, b) {
		t.Errorf("%x, %x", a, b)
	}
}

// The input is read before the output is written, wherever they overlap.
func TestOverlaps(t *testing.T) {
	for kind := 1; kind <= 8; kind++ {
		r := newRig(t, 1)
		for d := uint32(0); d < 80; d += 3 {
			for _, n := range []uint32{16, 32, 64} {
				r.do(t, job.Job{Kind: byte(kind), Handle: 7, To: byte(d % 4), Flags: 5, Len: n, Src: data + 100, Dst: data + 60 + d, Aux: data + 90})
			}
		}
	}
}

// All places empty, no key is used; the other kinds go on.
func TestDeadSlots(t *testing.T) {
	for kind := 1; kind <= 8; kind++ {
		r := newRig(t, 1)
		answered(t, r.do(t, job.Job{Kind: byte(kind), Handle: 0, To: 1, Len: 16, Src: data, Dst: data, Aux: data}), api.OK)
		r.e.Kill()
		r.w.keys, r.w.kinds, r.w.dead = map[int]api.Digest{}, map[int]int{}, true
		want := api.OK
		if kind == job.Mac || kind == job.Cipher || kind == job.Derive || kind == job.Quote {
			want = api.ErrDead
		}
		for h := range byte(8) {
			answered(t, r.do(t, job.Job{Kind: byte(kind), Handle: h, To: h % 4, Len: 16, Src: data, Dst: data, Aux: data}), want)
		}
		answered(t, r.do(t, job.Job{Kind: byte(kind), Handle: 8, To: 8, Flags: 3, Len: 1025}), api.ErrLong)
		answered(t, r.do(t, job.Job{Kind: byte(kind), Handle: 0, To: 1, Len: 16, Src: 1, Dst: data, Next: 1}), api.ErrAlign)
	}
}

func TestKeyed(t *testing.T) {
	r := newRig(t, 1)
	count := 0
	for kind := range 10 {
		for h := range byte(9) {
			for _, dst := range []uint32{data, code} {
				j := job.Job{Kind: byte(kind), Handle: h, To: h + 1, Len: 16, Src: data, Dst: dst, Aux: data}
				if e := r.do(t, j); e == api.OK && (kind == 2 || kind == 3 || kind == 4 || kind == 6) {
					count++
				}
			}
		}
	}
	if got := r.e.Keyed(); got != count || count < 10 {
		t.Errorf("%d jobs with keys, not %d", got, count)
	}
	// Calls of the slots are no jobs.
	if _, e := r.e.Mac(0); e != api.OK || r.e.Keyed() != count {
		t.Errorf("error %d, %d jobs with keys", e, r.e.Keyed())
	}
	other := engine.New()
	if other.Keyed() != 0 {
		t.Error("another engine has done jobs")
	}
}

// The slots' methods are the engine's, too.
func TestSlots(t *testing.T) {
	e := engine.New()
	twin := slot.New()
	both := func(a, b api.Errno) {
		t.Helper()
		if a != b {
			t.Errorf("errors %d and %d", a, b)
		}
	}
	both(e.Lay(0, 1, key(1)), twin.Lay(0, 1, key(1)))
	both(e.Lay(0, 2, key(1)), twin.Lay(0, 2, key(1)))
	both(e.Lay(6, 3, key(2)), twin.Lay(6, 3, key(2)))
	both(e.Derive(0, 2, "label", some(3), nil), twin.Derive(0, 2, "label", some(3), nil))
	both(e.Derive(1, 3, "label"), twin.Derive(1, 3, "label"))
	for h := -1; h < 9; h++ {
		a, f := e.Mac(h, some(3), some(4))
		b, g := twin.Mac(h, some(3), some(4))
		both(f, g)
		c, f := e.Cipher(h, 1, true, api.Block{7}, some(48))
		d, g := twin.Cipher(h, 1, true, api.Block{7}, some(48))
		both(f, g)
		if a != b || !bytes.Equal(c, d) || e.Kind(h) != twin.Kind(h) {
			t.Errorf("place %d differs", h)
		}
	}
	if e.Count() != 3 || e.Wipe(0, 1, 6) != 2 || e.Count() != 1 || e.Slots.Count() != 1 || e.Locked() || e.Dead() {
		t.Errorf("%d places", e.Count())
	}
	e.Lock()
	if !e.Locked() || !e.Slots.Locked() || e.Lay(0, 1, key(1)) != api.ErrLock {
		t.Error("not locked")
	}
	e.Kill()
	if !e.Dead() || !e.Slots.Dead() || e.Lay(0, 3, key(1)) != api.ErrDead {
		t.Error("not dead")
	}
}

func TestNilEngine(t *testing.T) {
	var e *engine.Engine
	r := newRig(t, 1)
	e.Stir(1, 2)
	e.Stir()
	for _, n := range []int{-1, 0, 5, 1025} {
		if p := e.Draw(n); len(p) != 0 {
			t.Errorf("%x", p)
		}
	}
	for _, s := range []*engine.Space{nil, r.s} {
		for _, j := range []job.Job{{}, {Kind: job.Copy, Src: data, Dst: data, Len: 4}, {Kind: job.Sum, Len: 2000}} {
			answered(t, e.Do(s, j), api.ErrNone)
		}
		for _, at := range []uint32{0, data, code} {
			if n, x := e.Run(s, at); n != 0 || x != api.ErrNone {
				t.Errorf("%d jobs, error %d", n, x)
			}
		}
	}
	e.Lock()
	e.Kill()
	if e.Keyed() != 0 || e.Kind(0) != 0 || e.Count() != 0 || e.Wipe(0, 1) != 0 || e.Locked() || e.Dead() {
		t.Error("a nil engine has something")
	}
	answered(t, e.Lay(0, 1, key(0)), api.ErrNone)
	answered(t, e.Derive(0, 1, "x"), api.ErrNone)
	if d, x := e.Mac(0); d != (api.Digest{}) || x != api.ErrNone {
		t.Errorf("error %d", x)
	}
	if p, x := e.Cipher(0, 0, false, api.Block{}, some(16)); len(p) != 0 || x != api.ErrNone {
		t.Errorf("error %d", x)
	}
	r.holds(t)
}

// Without a space there is nothing to be done, and nothing is changed.
func TestNoSpace(t *testing.T) {
	r := newRig(t, 1)
	for kind := range 12 {
		answered(t, r.e.Do(nil, job.Job{Kind: byte(kind)}), api.ErrNone)
		answered(t, r.e.Do(nil, job.Job{Kind: byte(kind), To: 1, Len: 2000, Next: 1}), api.ErrNone)
	}
	if n, e := r.e.Run(nil, data); n != 0 || e != api.ErrNone {
		t.Errorf("%d jobs, error %d", n, e)
	}
	works(t, r.e, r.w)
	drawsAlike(t, r.e, r.w)
}

// Meas is a value: changing it changes the engine's, and no other.
func TestMeasIsTheEngines(t *testing.T) {
	r := newRig(t, 1)
	before := r.e.Meas
	r.do(t, job.Job{Kind: job.Extend, To: 1, Src: data, Len: 3})
	if before != meas.New() || r.e.Meas == before {
		t.Error("the registers are shared")
	}
	r.e.Meas, r.w.regs = before, before.All()
	r.do(t, job.Job{Kind: job.Quote, Handle: 3, Src: data, Len: 3, Dst: data})
}
