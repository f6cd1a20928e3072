package engine_test

import (
	"bytes"
	"math/rand"
	"testing"

	"curtilage/api"
	"curtilage/engine"
	"curtilage/job"
)

// many returns n jobs of which each one changes what can be seen.
func many(n int) []job.Job {
	var l []job.Job
	for i := range n {
		at := data + uint32(i)
		l = append(l, []job.Job{
			{Kind: job.Sum, Src: at, Len: 40, Dst: at},
			{Kind: job.Mac, Handle: 3, Src: at, Len: 50, Dst: at},
			{Kind: job.Extend, To: byte(i % 4), Src: at, Len: 9},
			{Kind: job.Random, Dst: at + 9, Len: uint32(i)},
		}[i%4])
	}
	return l
}

// Every number of jobs: up to 16 are done, and the 17th is not.
func TestRun(t *testing.T) {
	for n := 1; n <= 40; n++ {
		r := newRig(t, 1)
		r.put(t, data+0x800, job.Chain(data+0x800, many(n)...))
		want := api.OK
		if n > 16 {
			want = api.ErrFull
		}
		if done, e := r.run(t, data+0x800); done != min(n, 16) || e != want {
			t.Errorf("%d jobs: %d, error %d", n, done, e)
		}
		drawsAlike(t, r.e, r.w)
	}
}

// Of a chain that is too long, it makes no difference what the next one is.
func TestRunBehindTheLast(t *testing.T) {
	for _, next := range []uint32{0, 4, data, data + 0x800, fuses, 0xfffffffc} {
		r := newRig(t, 1)
		l := many(16)
		p := job.Chain(data+0x800, l...)
		l[15].Next = next
		copy(p[32*15:], l[15].Bytes())
		r.put(t, data+0x800, p)
		want := api.OK
		if next != 0 {
			want = api.ErrFull
		}
		if done, e := r.run(t, data+0x800); done != 16 || e != want {
			t.Errorf("next %x: %d jobs, error %d", next, done, e)
		}
		drawsAlike(t, r.e, r.w)
	}
}

// The first error ends it, whatever follows; what was done stays.
func TestRunUpToAnError(t *testing.T) {
	for at := range 18 {
		for _, c := range []struct {
			bad  job.Job
			want api.Errno
		}{
			{job.Job{Kind: 9}, api.ErrArg},
			{job.Job{Kind: job.Copy, Len: 1025}, api.ErrLong},
			{job.Job{Kind: job.Copy, Len: 1}, api.ErrMap},
			{job.Job{Kind: job.Copy, Src: ports, Len: 1}, api.ErrDenied},
			{job.Job{Kind: job.Mac, Handle: 1}, api.ErrNone},
			{job.Job{Kind: job.Derive, Handle: 3, To: 3}, api.ErrFull},
			{job.Job{Kind: job.Random, Dst: code, Len: 4}, api.ErrDenied},
		} {
			r := newRig(t, 1)
			l := many(18)
			l[at] = c.bad
			r.put(t, data+0x800, job.Chain(data+0x800, l...))
			n, want := at, c.want
			if at > 15 {
				n, want = 16, api.ErrFull
			}
			if done, e := r.run(t, data+0x800); done != n || e != want {
				t.Errorf("%+v as job %d: %d jobs, error %d", c.bad, at, done, e)
			}
			drawsAlike(t, r.e, r.w)
		}
	}
}

// Every descriptor has its form: words 5 and 6 are 0, and Next is a multiple of 4.
func TestRunForms(t *testing.T) {
	for i := range 3 {
		for _, c := range []struct {
			at   int
			want api.Errno
		}{
			{20, api.ErrForm},
			{27, api.ErrForm},
			{31, api.ErrAlign},
			{0, api.ErrArg},
		} {
			r := newRig(t, 1)
			p := job.Chain(data+0x800, many(3)...)
			p[32*i+c.at] |= 0x81
			r.put(t, data+0x800, p)
			if done, e := r.run(t, data+0x800); done != i || e != c.want {
				t.Errorf("job %d, byte %d: %d jobs, error %d", i, c.at, done, e)
			}
		}
	}
}

// The DMA loads the descriptors from where it may read, aligned or not, but not
// across a region's end.
func TestWhereDescriptorsLie(t *testing.T) {
	for stage := range 3 {
		for _, at := range []uint32{code, code + 1, code + 4064, code + 4065, data - 1, data, data + 7, data + 4064, data + 4065, data + 4096, store, ports, fuses, 0} {
			r := newRig(t, stage)
			j := job.Job{Kind: job.Extend, Src: data, Len: 4}
			if at >= code && at <= data+4064 && (at <= code+4064 || at >= data) {
				r.put(t, at, j.Bytes())
			}
			r.run(t, at)
		}
	}
	r := newRig(t, 2)
	l := job.Chain(store+0x210, many(3)...)
	copy(r.w.flash[0x210:], l)
	r.s = r.w.space(t)
	if done, e := r.run(t, store+0x210); done != 3 || e != api.OK {
		t.Errorf("in the flash: %d jobs, error %d", done, e)
	}
	for _, c := range []struct {
		at   uint32
		want api.Errno
	}{{data + 4065, api.ErrMap}, {ports, api.ErrDenied}, {0, api.ErrMap}, {store + 10240 - 31, api.ErrMap}} {
		if done, e := r.run(t, c.at); done != 0 || e != c.want {
			t.Errorf("at %x: %d jobs, error %d", c.at, done, e)
		}
	}
	r = newRig(t, 3) // no stage
	if done, e := r.run(t, data); done != 0 || e != api.ErrArg {
		t.Errorf("%d jobs, error %d", done, e)
	}
}

// Of a chain without an end, 16 jobs are done.
func TestRunInACircle(t *testing.T) {
	for n := uint32(1); n < 6; n++ {
		r := newRig(t, 1)
		for i := range n {
			j := job.Job{Kind: job.Extend, To: byte(i % 4), Src: data, Len: i, Next: data + 0x100 + 32*((i+1)%n)}
			r.put(t, data+0x100+32*i, j.Bytes())
		}
		if done, e := r.run(t, data+0x100); done != 16 || e != api.ErrFull {
			t.Errorf("%d jobs: %d, error %d", n, done, e)
		}
	}
}

// A chain may go to and fro.
func TestRunBackwards(t *testing.T) {
	r := newRig(t, 1)
	for i := range uint32(16) {
		j := job.Job{Kind: job.Extend, To: byte(i % 4), Src: data, Len: i, Next: data + 0x100 + 40*(15-i)}
		if i == 15 {
			j.Next = 0
		}
		at := data + 0x100 + 40*(16-i)
		r.put(t, at, j.Bytes())
	}
	if done, e := r.run(t, data+0x100+40*16); done != 16 || e != api.OK {
		t.Errorf("%d jobs, error %d", done, e)
	}
}

// A job may write the descriptors behind it, which are loaded when it is their
// turn, and its own, which has been loaded.
func TestRunWhatWritesTheChain(t *testing.T) {
	r := newRig(t, 1)
	at := uint32(data + 0x100)
	r.put(t, data+0x800, job.Job{Kind: job.Extend, To: 3, Src: data, Len: 7, Next: at + 64}.Bytes())
	r.put(t, at, job.Chain(at,
		job.Job{Kind: job.Copy, Src: data + 0x800, Dst: at + 32, Len: 32},
		job.Job{Kind: 99},
		job.Job{Kind: job.Random, Dst: at + 64, Len: 32}, // over itself
		job.Job{Kind: job.Extend, To: 2, Src: at, Len: 128},
	))
	if done, e := r.run(t, at); done != 4 || e != api.OK {
		t.Errorf("%d jobs, error %d", done, e)
	}
	drawsAlike(t, r.e, r.w)
}

// Each chain goes on with the engine as the one before has left it.
func TestRunAgain(t *testing.T) {
	r := newRig(t, 1)
	r.put(t, data+0x800, job.Chain(data+0x800, many(9)...))
	for range 5 {
		if done, e := r.run(t, data+0x800); done != 9 || e != api.OK {
			t.Errorf("%d jobs, error %d", done, e)
		}
	}
	if r.e.Keyed() != 10 {
		t.Errorf("%d jobs with keys", r.e.Keyed())
	}
	drawsAlike(t, r.e, r.w)
}

// anyJob returns a job that is right more often than not.
func anyJob(r *rand.Rand) job.Job {
	pick := func(most int) byte { // now and then one too many
		if r.Intn(30) == 0 {
			return byte(most + 1)
		}
		return byte(r.Intn(most + 1))
	}
	near := func() uint32 { // mostly in Data
		x := areas[1]
		if r.Intn(5) == 0 {
			x = areas[r.Intn(len(areas))]
		}
		return x.base + uint32(r.Intn(x.size+40)) - 20
	}
	lens := []uint32{0, 16, 32, 64, 16 * uint32(r.Intn(66)), uint32(r.Intn(1026))}
	return job.Job{
		Kind: pick(8), Handle: pick(7), To: pick(3), Flags: pick(6),
		Src: near(), Dst: near(), Aux: near(), Len: lens[r.Intn(len(lens))],
	}
}

// Long sequences of all calls.
func TestManyJobs(t *testing.T) {
	for seed := range int64(30) {
		r := rand.New(rand.NewSource(seed))
		x := newRig(t, r.Intn(3))
		for range 250 {
			switch r.Intn(12) {
			case 0:
				p := some(r.Intn(70))
				x.e.Stir(p...)
				x.w.stir(p...)
			case 1:
				drawsAlike(t, x.e, x.w)
			case 2:
				x.s.Stage = r.Intn(3)
				x.w.stage = x.s.Stage
			case 3:
				h := r.Intn(8)
				x.e.Wipe(h)
				delete(x.w.keys, h)
				delete(x.w.kinds, h)
			case 4:
				if h := r.Intn(8); x.w.kinds[h] == 0 {
					k := key(r.Intn(99))
					must(t, x.e.Lay(h, 3, k))
					x.w.key(h, 3, k)
				}
			case 5, 6:
				at := data + uint32(r.Intn(2000))
				var l []job.Job
				for range r.Intn(20) {
					l = append(l, anyJob(r))
				}
				x.put(t, at, job.Chain(at, l...))
				x.run(t, at)
			default:
				j := anyJob(r)
				j.Next = uint32(r.Intn(100) / 96) // 1 now and then
				x.do(t, j)
			}
			x.holds(t)
			if t.Failed() {
				t.FailNow()
			}
		}
		drawsAlike(t, x.e, x.w)
	}
}

// Twins have other keys in the same places: nothing tells them apart but the
// outputs of Mac, Cipher and Quote.
func TestKeysAreNotSeen(t *testing.T) {
	for seed := range int64(30) {
		r := rand.New(rand.NewSource(seed))
		a, b := newRig(t, 1), newRig(t, 1)
		b.e = engine.New()
		for h, k := range a.w.keys {
			k[seed] ^= 1
			must(t, b.e.Lay(h, a.w.kinds[h], k))
		}
		for range 200 {
			j := anyJob(r)
			e, f := a.e.Do(a.s, j), b.e.Do(b.s, j)
			if e != f || a.e.Keyed() != b.e.Keyed() || a.e.Count() != b.e.Count() {
				t.Fatalf("%+v: errors %d and %d", j, e, f)
			}
			if shows := j.Kind == job.Mac || j.Kind == job.Cipher || j.Kind == job.Quote; shows && e == api.OK {
				if j.Out() > 0 && a.s.RAM == b.s.RAM {
					t.Fatalf("%+v: the key makes no difference", j)
				}
				b.s.RAM = a.s.RAM
			}
			if a.s.RAM != b.s.RAM || a.e.Meas != b.e.Meas || !bytes.Equal(a.e.Draw(8), b.e.Draw(8)) {
				t.Fatalf("%+v tells the keys apart", j)
			}
			h := r.Intn(40)
			if a.e.Wipe(h) != b.e.Wipe(h) {
				t.Fatalf("place %d", h)
			}
		}
	}
}
