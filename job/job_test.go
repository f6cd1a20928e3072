package job_test

import (
	"bytes"
	"encoding/binary"
	"encoding/hex"
	"math"
	"math/rand"
	"slices"
	"testing"

	"curtilage/api"
	"curtilage/job"
)

// rule is what the document asks of a kind: what Handle and To must be below
// (0 if they may be anything), and whether it is a cipher.
type rule struct {
	handles, tos int
	cipher       bool
}

// rules has the kinds by the document's numbers.
var rules = map[int]rule{
	1: {},
	2: {handles: 8},
	3: {handles: 8, cipher: true},
	4: {handles: 8, tos: 8},
	5: {tos: 4},
	6: {handles: 8},
	7: {},
	8: {},
}

// right is the document's Right.
func right(j job.Job) api.Errno {
	r, known := rules[int(j.Kind)]
	if !known {
		return api.ErrArg
	}
	if j.Len > 1024 {
		return api.ErrLong
	}
	if r.handles > 0 && int(j.Handle) >= r.handles || r.tos > 0 && int(j.To) >= r.tos {
		return api.ErrArg
	}
	if r.cipher && (j.Flags > 7 || j.Flags%4 == 3 || j.Len%16 > 0) {
		return api.ErrArg
	}
	if j.Next%4 > 0 {
		return api.ErrAlign
	}
	return api.OK
}

// written is the document's descriptor, by the library.
func written(j job.Job) []byte {
	p := []byte{j.Kind, j.Handle, j.To, j.Flags}
	for _, w := range []uint32{j.Src, j.Dst, j.Len, j.Aux, 0, 0, j.Next} {
		p = binary.BigEndian.AppendUint32(p, w)
	}
	return p
}

// holds holds that a job is as right as it is, and what becomes of its
// descriptor.
func holds(t *testing.T, j job.Job) {
	t.Helper()
	want := right(j)
	if got := j.Right(); got != want {
		t.Errorf("%+v: error %d, not %d", j, got, want)
	}
	p := j.Bytes()
	if !bytes.Equal(p, written(j)) {
		t.Errorf("%+v: %x", j, p)
	}
	back, e := job.Parse(p)
	if e != want || want == api.OK && back != j || want != api.OK && back != (job.Job{}) {
		t.Errorf("%+v: parsed %+v, error %d, not %d", j, back, e, want)
	}
}

func TestTheExample(t *testing.T) {
	j := job.Job{Kind: job.Sum, Src: 0x20001000, Dst: 0x20001100, Len: 5}
	want := "01000000" + "20001000" + "20001100" + "00000005" + "00000000" + "00000000" + "00000000" + "00000000"
	if got := hex.EncodeToString(j.Bytes()); got != want {
		t.Errorf("%s", got)
	}
	if got := hex.EncodeToString(job.Chain(0x20001800, j)); got != want {
		t.Errorf("chain %s", got)
	}
	holds(t, j)
}

func TestTheKinds(t *testing.T) {
	got := []int{job.Size, job.Sum, job.Mac, job.Cipher, job.Derive, job.Extend, job.Quote, job.Copy, job.Random}
	if !slices.Equal(got, []int{32, 1, 2, 3, 4, 5, 6, 7, 8}) {
		t.Errorf("%d", got)
	}
	for kind := range 256 {
		for _, len := range []uint32{0, 16, 1024, 1025} {
			for _, next := range []uint32{0, 1} {
				holds(t, job.Job{Kind: byte(kind), Len: len, Next: next})
				holds(t, job.Job{Kind: byte(kind), Handle: 8, To: 8, Flags: 8, Len: len, Next: next})
			}
		}
	}
}

// Every byte of the descriptor is one of some field.
func TestBytes(t *testing.T) {
	j := job.Job{Kind: 1, Handle: 2, To: 3, Flags: 4, Src: 0x05060708, Dst: 0x090a0b0c, Len: 0x0d0e0f10, Aux: 0x11121314, Next: 0x1d1e1f20}
	want, _ := hex.DecodeString("0102030405060708090a0b0c0d0e0f101112131400000000000000001d1e1f20")
	if got := j.Bytes(); !bytes.Equal(got, want) {
		t.Errorf("%x", got)
	}
	// So are those of jobs that are not right.
	all := job.Job{255, 255, 255, 255, math.MaxUint32, math.MaxUint32, math.MaxUint32, math.MaxUint32, math.MaxUint32}
	want = slices.Concat(bytes.Repeat([]byte{255}, 20), make([]byte, 8), bytes.Repeat([]byte{255}, 4))
	if got := all.Bytes(); !bytes.Equal(got, want) {
		t.Errorf("%x", got)
	}
	if got := (job.Job{}).Bytes(); !bytes.Equal(got, make([]byte, 32)) {
		t.Errorf("%x", got)
	}
	holds(t, j)
	holds(t, all)
	holds(t, job.Job{})
}

func TestBytesIsNewMemory(t *testing.T) {
	j := job.Job{Kind: job.Copy, Len: 9}
	p := j.Bytes()
	for i := range p[:cap(p)] {
		p[:cap(p)][i] = 0xee
	}
	holds(t, j)
}

func TestParseLengths(t *testing.T) {
	p := append(job.Job{Kind: job.Copy}.Bytes(), job.Job{Kind: job.Copy}.Bytes()...)
	for n := range len(p) + 1 {
		j, e := job.Parse(p[:n])
		if n == 32 && (e != api.OK || j != job.Job{Kind: job.Copy}) || n != 32 && (e != api.ErrForm || j != job.Job{}) {
			t.Errorf("%d bytes: error %d, %+v", n, e, j)
		}
	}
	if j, e := job.Parse(nil); e != api.ErrForm || j != (job.Job{}) {
		t.Errorf("nothing: error %d, %+v", e, j)
	}
	if j, e := job.Parse(make([]byte, 1<<16)); e != api.ErrForm || j != (job.Job{}) {
		t.Errorf("many bytes: error %d, %+v", e, j)
	}
}

// Words 5 and 6 are 0, or the descriptor has no form, whatever else it has.
func TestParseZeroWords(t *testing.T) {
	for _, j := range []job.Job{{Kind: job.Copy}, {Kind: 9}, {Kind: job.Sum, Len: 1025}, {Kind: job.Mac, Handle: 8}, {Kind: job.Copy, Next: 2}} {
		for i := 20 * 8; i < 28*8; i++ {
			p := j.Bytes()
			p[i/8] |= 1 << (i % 8)
			if got, e := job.Parse(p); e != api.ErrForm || got != (job.Job{}) {
				t.Errorf("%+v, bit %d: error %d, %+v", j, i, e, got)
			}
		}
	}
}

// Each bit of a descriptor, turned.
func TestParseEveryBit(t *testing.T) {
	for kind := range rules {
		j := job.Job{Kind: byte(kind), Handle: 5, To: 2, Flags: 6, Src: 0x20000001, Dst: 0x20001003, Len: 512, Aux: 0x10000005, Next: 0x20000ffc}
		holds(t, j)
		for i := range 256 {
			p := j.Bytes()
			p[i/8] ^= 1 << (i % 8)
			turned := job.Job{p[0], p[1], p[2], p[3],
				binary.BigEndian.Uint32(p[4:]), binary.BigEndian.Uint32(p[8:]), binary.BigEndian.Uint32(p[12:]), binary.BigEndian.Uint32(p[16:]),
				binary.BigEndian.Uint32(p[28:])}
			want := right(turned)
			if i/8 >= 20 && i/8 < 28 {
				want = api.ErrForm
			}
			if want != api.OK {
				turned = job.Job{}
			}
			if got, e := job.Parse(p); got != turned || e != want {
				t.Errorf("kind %d, bit %d: error %d, not %d, %+v", kind, i, e, want, got)
			}
		}
	}
}

func TestParseLeavesItsArgument(t *testing.T) {
	p := job.Job{Kind: job.Cipher, Handle: 7, Flags: 5, Len: 32, Next: 4}.Bytes()
	before := bytes.Clone(p)
	j, e := job.Parse(p)
	if !bytes.Equal(p, before) || e != api.OK {
		t.Errorf("error %d, %x", e, p)
	}
	clear(p)
	if !bytes.Equal(j.Bytes(), before) {
		t.Errorf("%+v", j)
	}
}

// Every handle and register, for every kind.
func TestHandlesAndRegisters(t *testing.T) {
	for kind := range 10 {
		for n := range 256 {
			for _, other := range []byte{0, 3, 4, 7, 8, 255} {
				holds(t, job.Job{Kind: byte(kind), Handle: byte(n), To: other})
				holds(t, job.Job{Kind: byte(kind), Handle: other, To: byte(n)})
			}
		}
	}
}

// Every value of the flags, for every kind.
func TestFlags(t *testing.T) {
	for kind := range 10 {
		for n := range 256 {
			j := job.Job{Kind: byte(kind), Flags: byte(n), Len: 16}
			holds(t, j)
			mode, back := j.Mode()
			if kind == job.Cipher && (mode != n%4 || back != (n/4%2 == 1)) {
				t.Errorf("flags %d: mode %d, %t", n, mode, back)
			}
		}
	}
}

func TestLengths(t *testing.T) {
	far := []uint32{2048, 1 << 16, 1<<16 + 16, 1 << 31, math.MaxUint32 - 15, math.MaxUint32}
	for kind := range 256 {
		for n := range uint32(1200) {
			if kind < 10 || n == 1024 || n == 1025 {
				holds(t, job.Job{Kind: byte(kind), Len: n})
			}
		}
		for _, n := range far {
			holds(t, job.Job{Kind: byte(kind), Len: n})
		}
	}
}

func TestNext(t *testing.T) {
	for kind := range 10 {
		for n := range uint32(100) {
			holds(t, job.Job{Kind: byte(kind), Next: n})
			holds(t, job.Job{Kind: byte(kind), Next: -n})
			holds(t, job.Job{Kind: byte(kind), Next: 0x20001000 - n})
		}
	}
}

// Of several errors, the first one counts.
func TestTheOrderOfErrors(t *testing.T) {
	for _, c := range []struct {
		j    job.Job
		want api.Errno
	}{
		{job.Job{Kind: 0, Handle: 8, Len: 1025, Next: 1}, api.ErrArg},
		{job.Job{Kind: 9, Handle: 8, Len: 1025, Next: 1}, api.ErrArg},
		{job.Job{Kind: job.Mac, Handle: 8, Len: 1025, Next: 1}, api.ErrLong},
		{job.Job{Kind: job.Cipher, Flags: 3, Len: 1025, Next: 1}, api.ErrLong},
		{job.Job{Kind: job.Extend, To: 4, Len: 1025, Next: 1}, api.ErrLong},
		{job.Job{Kind: job.Mac, Handle: 8, Len: 1024, Next: 1}, api.ErrArg},
		{job.Job{Kind: job.Cipher, Flags: 3, Len: 1024, Next: 1}, api.ErrArg},
		{job.Job{Kind: job.Cipher, Flags: 8, Len: 1024, Next: 1}, api.ErrArg},
		{job.Job{Kind: job.Cipher, Len: 8, Next: 1}, api.ErrArg},
		{job.Job{Kind: job.Derive, To: 8, Len: 1024, Next: 1}, api.ErrArg},
		{job.Job{Kind: job.Extend, To: 4, Len: 1024, Next: 1}, api.ErrArg},
		{job.Job{Kind: job.Quote, Handle: 8, Len: 1024, Next: 1}, api.ErrArg},
		{job.Job{Kind: job.Random, Handle: 8, To: 8, Flags: 8, Len: 1025, Next: 1}, api.ErrLong},
		{job.Job{Kind: job.Random, Handle: 8, To: 8, Flags: 8, Len: 1024, Next: 1}, api.ErrAlign},
		{job.Job{Kind: job.Random, Handle: 8, To: 8, Flags: 8, Len: 1024, Next: 8}, api.OK},
	} {
		if got := c.j.Right(); got != c.want {
			t.Errorf("%+v: error %d, not %d", c.j, got, c.want)
		}
		holds(t, c.j)
	}
}

func TestManyJobs(t *testing.T) {
	r := rand.New(rand.NewSource(17))
	few := func(l ...uint32) uint32 { return l[r.Intn(len(l))] }
	for range 200000 {
		holds(t, job.Job{
			Kind: byte(r.Intn(10)), Handle: byte(few(0, 3, 7, 8, r.Uint32())), To: byte(few(0, 3, 4, 7, 8, r.Uint32())),
			Flags: byte(few(0, 1, 2, 4, 5, 6, r.Uint32())), Src: r.Uint32(), Dst: r.Uint32(),
			Len: few(0, 16, 17, 1008, 1024, 1025, r.Uint32()%1100, r.Uint32()), Aux: r.Uint32(), Next: few(0, 0x20001000, r.Uint32()&^3, r.Uint32()),
		})
		if t.Failed() {
			t.FailNow()
		}
	}
}

func TestOut(t *testing.T) {
	for kind := range 256 {
		for _, n := range []uint32{0, 1, 16, 31, 32, 33, 1024, 1025, 1 << 20, math.MaxUint32} {
			want := 0
			switch kind {
			case 1, 2, 6:
				want = 32
			case 3, 7, 8:
				want = int(n)
			}
			j := job.Job{Kind: byte(kind), Handle: 255, To: 255, Flags: 255, Len: n}
			if got := j.Out(); got != want {
				t.Errorf("kind %d of %d bytes: %d, not %d", kind, n, got, want)
			}
		}
	}
}

func TestChain(t *testing.T) {
	for _, at := range []uint32{0, 4, 0x20001000, 0x20000003, 0x7fffffe0, math.MaxUint32 - 100} {
		var l []job.Job
		var want []byte
		for n := range 40 {
			if got := job.Chain(at, l...); !bytes.Equal(got, want) {
				t.Errorf("%d jobs at %x: %x", n, at, got)
			}
			// What the jobs have as Next does not count.
			l = append(l, job.Job{Kind: byte(n), Handle: byte(n + 1), Len: uint32(n), Next: uint32(n) * 7})
			if n > 0 {
				binary.BigEndian.PutUint32(want[32*n-4:], at+32*uint32(n))
			}
			last := l[n]
			last.Next = 0
			want = append(want, written(last)...)
		}
	}
}

func TestChainLeavesItsArguments(t *testing.T) {
	l := []job.Job{{Kind: 1, Next: 5}, {Kind: 2, Next: 6}, {Kind: 3, Next: 7}}
	before := slices.Clone(l)
	a := job.Chain(0x20001000, l[:2]...)
	b := job.Chain(0x20001000, l[:2]...)
	for i := range a[:cap(a)] {
		a[:cap(a)][i] = 0xee
	}
	if !slices.Equal(l, before) {
		t.Errorf("%+v", l)
	}
	if !bytes.Equal(b, job.Chain(0x20001000, l[:2]...)) {
		t.Errorf("%x", b)
	}
}
