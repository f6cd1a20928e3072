package engine_test

import (
	"bytes"
	"crypto/aes"
	"crypto/cipher"
	"crypto/hmac"
	"crypto/sha256"
	"encoding/binary"
	"math"
	"slices"
	"strconv"
	"strings"
	"testing"

	"curtilage/api"
	"curtilage/engine"
	"curtilage/flash"
	"curtilage/job"
	"curtilage/otp"
)

// The chapter once more, byte by byte, by the document's numbers and the
// library: what the space and the engine are held against.

// area is a region of the document's memory map.
type area struct {
	region int
	base   uint32
	size   int
}

// areas is the memory map.
var areas = []area{
	{1, 0x20000000, 4096},
	{2, 0x20001000, 4096},
	{3, 0x10000000, 10240},
	{4, 0x40000000, 64},
	{5, 0x60000000, 256},
}

// table is the rights: for each stage and master, the numbers of regions, each
// with its letters.
var table = [3][4]string{
	{"1rw 2rw 3rw 4rw 5rw", "", "1rw 2rw 3r", "4rw"},
	{"", "1rx 2rw 3r 4rw 5r", "1r 2rw 3r", "4rw"},
	{"", "1rwx 2rw 3r 4rw 5r", "1r 2rw 3r", "1rw 2rw 4rw 3r 5r"},
}

// strangers are numbers of no master and no stage.
var strangers = []int{-1, -2, 4, 5, 256, 1 << 32, math.MaxInt, math.MinInt}

// where returns the region of an address and its offset there, or 0, 0.
func where(at uint64) (int, int) {
	for _, x := range areas {
		from := uint64(x.base)
		if to := from + uint64(x.size); at >= from && at < to {
			return x.region, int(at - from)
		}
	}
	return 0, 0
}

// world is what a space and an engine hold. Of the flash it has more than its
// region shows, if there are more pages.
type world struct {
	stage  int
	ram    [8192]byte
	port   [64]byte
	flash  []byte
	fuses  [64]uint32
	locked [64]bool

	keys  map[int]api.Digest
	kinds map[int]int
	dead  bool
	regs  [4]api.Digest
	pool  api.Digest
	keyed int
}

// newWorld returns a world with that many pages, whose memory has other bytes
// everywhere.
func newWorld(stage, pages int) *world {
	w := &world{stage: stage, keys: map[int]api.Digest{}, kinds: map[int]int{}}
	copy(w.ram[:], some(8192))
	copy(w.port[:], some(64))
	w.flash = some(256 * pages)
	for i := range w.fuses {
		w.fuses[i] = binary.BigEndian.Uint32(some(4 + i)[i:])
	}
	return w
}

// key gives the world a key.
func (w *world) key(h, kind int, key api.Digest) {
	w.keys[h], w.kinds[h] = key, kind
}

// space returns a space that holds what the world does.
func (w *world) space(t *testing.T) *engine.Space {
	t.Helper()
	f, e := flash.New(len(w.flash) / 256)
	must(t, e)
	must(t, f.Write(0, w.flash))
	c, e := otp.Of(w.fuses[:])
	must(t, e)
	for i, locked := range w.locked {
		if locked {
			must(t, c.Lock(i))
		}
	}
	s := engine.NewSpace(f, c)
	s.Stage, s.RAM, s.Port = w.stage, w.ram, w.port
	return s
}

// engine returns an engine that has the world's keys. It is at its begin.
func (w *world) engine(t *testing.T) *engine.Engine {
	t.Helper()
	e := engine.New()
	for h, key := range w.keys {
		must(t, e.Lay(h, w.kinds[h], key))
	}
	return e
}

// check is layer 14's Check of one byte, by the letter that is needed.
func (w *world) check(who int, at uint32, letter string) (int, int, api.Errno) {
	if who < 0 || who > 3 || w.stage < 0 || w.stage > 2 {
		return 0, 0, api.ErrArg
	}
	region, offset := where(uint64(at))
	if region == 0 {
		return 0, 0, api.ErrMap
	}
	for _, cell := range strings.Fields(table[w.stage][who]) {
		if cell[:1] == strconv.Itoa(region) && strings.Contains(cell[1:], letter) {
			return region, offset, api.OK
		}
	}
	return 0, 0, api.ErrDenied
}

// inside tells whether n bytes from at on are all in a region.
func inside(region int, at uint32, n int) bool {
	for i := range n {
		if r, _ := where(uint64(at) + uint64(i)); r != region {
			return false
		}
	}
	return true
}

// at returns the byte of a region, or its error.
func (w *world) at(region, offset int) (byte, api.Errno) {
	switch region {
	case 1:
		return w.ram[offset], api.OK
	case 2:
		return w.ram[4096+offset], api.OK
	case 4:
		return w.port[offset], api.OK
	case 5:
		if w.locked[offset/4] {
			return 0, api.ErrLock
		}
		return byte(w.fuses[offset/4] >> (24 - 8*(offset%4))), api.OK
	}
	if offset >= len(w.flash) {
		return 0, api.ErrMap
	}
	return w.flash[offset], api.OK
}

func (w *world) load(who int, at uint32, n int) ([]byte, api.Errno) {
	if n < 0 {
		return nil, api.ErrArg
	}
	if n == 0 {
		return nil, api.OK
	}
	region, offset, e := w.check(who, at, "r")
	if e != api.OK {
		return nil, e
	}
	if !inside(region, at, n) {
		return nil, api.ErrMap
	}
	var p []byte
	for i := range n {
		b, e := w.at(region, offset+i)
		if e != api.OK {
			return nil, e
		}
		p = append(p, b)
	}
	return p, api.OK
}

func (w *world) store(who int, at uint32, p []byte) api.Errno {
	if len(p) == 0 {
		return api.OK
	}
	region, offset, e := w.check(who, at, "w")
	if e != api.OK {
		return e
	}
	if !inside(region, at, len(p)) {
		return api.ErrMap
	}
	switch region {
	case 1:
		copy(w.ram[offset:], p)
	case 2:
		copy(w.ram[4096+offset:], p)
	case 3:
		return w.storeFlash(offset, p)
	case 4:
		copy(w.port[offset:], p)
	case 5:
		return w.storeFuses(offset, p)
	}
	return api.OK
}

func (w *world) storeFlash(offset int, p []byte) api.Errno {
	if offset+len(p) > len(w.flash) {
		return api.ErrMap
	}
	for i, b := range p {
		if w.flash[offset+i]&b != b {
			return api.ErrState
		}
	}
	copy(w.flash[offset:], p)
	return api.OK
}

func (w *world) storeFuses(offset int, p []byte) api.Errno {
	if offset%4 > 0 || len(p)%4 > 0 {
		return api.ErrAlign
	}
	for i := 0; i < len(p); i += 4 {
		v := binary.BigEndian.Uint32(p[i:])
		old := &w.fuses[(offset+i)/4]
		if *old|v != v {
			return api.ErrFuse
		}
		*old = v
	}
	return api.OK
}

func (w *world) fetch(at uint32) (uint32, api.Errno) {
	if w.stage < 0 || w.stage > 2 {
		return 0, api.ErrArg
	}
	if at%4 > 0 {
		return 0, api.ErrAlign
	}
	_, offset, e := w.check(1, at, "x")
	if e != api.OK {
		return 0, e
	}
	return binary.LittleEndian.Uint32(w.ram[offset:]), api.OK
}

func (w *world) stir(l ...byte) { w.pool = sha256.Sum256(append(w.pool[:], l...)) }

func (w *world) draw(n int) []byte {
	if n < 0 || n > 1024 {
		return nil
	}
	var p []byte
	for i := range uint32(32) {
		d := sha256.Sum256(binary.BigEndian.AppendUint32(append([]byte("OUT"), w.pool[:]...), i))
		p = append(p, d[:]...)
	}
	w.pool = sha256.Sum256(append([]byte("NEXT"), w.pool[:]...))
	return p[:n]
}

// do is the document's Do, on a world that is thrown away beside an error.
func (w *world) do(j job.Job) api.Errno {
	if e := j.Right(); e != api.OK {
		return e
	}
	after := w.copy()
	if e := after.work(j); e != api.OK {
		return e
	}
	if j.Kind == 2 || j.Kind == 3 || j.Kind == 4 || j.Kind == 6 {
		after.keyed++
	}
	*w = *after
	return api.OK
}

// copy returns a world that holds the same.
func (w *world) copy() *world {
	c := *w
	c.flash = bytes.Clone(w.flash)
	c.keys, c.kinds = map[int]api.Digest{}, map[int]int{}
	for h := range w.keys {
		c.key(h, w.kinds[h], w.keys[h])
	}
	return &c
}

// work does a job that is right, from its input to its output.
func (w *world) work(j job.Job) api.Errno {
	var in, start, out []byte
	e := api.OK
	if j.Kind != 8 {
		if in, e = w.load(2, j.Src, int(j.Len)); e != api.OK {
			return e
		}
	}
	if j.Kind == 3 {
		if start, e = w.load(2, j.Aux, 16); e != api.OK {
			return e
		}
	}
	h, to := int(j.Handle), int(j.To)
	switch key, ok := w.keys[h]; {
	case j.Kind == 1:
		d := sha256.Sum256(in)
		out = d[:]
	case j.Kind == 5:
		d := sha256.Sum256(in)
		w.regs[to] = sha256.Sum256(append(w.regs[to][:], d[:]...))
	case j.Kind == 7:
		out = in
	case j.Kind == 8:
		out = w.draw(int(j.Len))
	case w.dead:
		return api.ErrDead
	case !ok:
		return api.ErrNone
	case j.Kind == 2:
		out = macOf(key, in)
	case j.Kind == 3:
		out = ciphered(key, int(j.Flags%4), j.Flags >= 4, start, in)
	case j.Kind == 4:
		if _, full := w.keys[to]; full {
			return api.ErrFull
		}
		w.key(to, 2, derivedFrom(key, in))
	case j.Kind == 6:
		out = macOf(key, binary.BigEndian.AppendUint32([]byte("QUOT"), uint32(len(in))), in, w.all())
	}
	return w.store(2, j.Dst, out)
}

// all returns the bytes of all registers.
func (w *world) all() []byte {
	return slices.Concat(w.regs[0][:], w.regs[1][:], w.regs[2][:], w.regs[3][:])
}

func (w *world) run(at uint32) (int, api.Errno) {
	for n := 0; ; n++ {
		p, e := w.load(2, at, 32)
		if e != api.OK {
			return n, e
		}
		j, e := job.Parse(p)
		if e != api.OK {
			return n, e
		}
		if e := w.do(j); e != api.OK {
			return n, e
		}
		if j.Next == 0 {
			return n + 1, api.OK
		}
		if n == 15 {
			return 16, api.ErrFull
		}
		at = j.Next
	}
}

// some returns n bytes without a short period.
func some(n int) []byte {
	p := make([]byte, n)
	x := uint32(n)*2654435761 + 1
	for i := range p {
		x = x*1664525 + 1013904223
		p[i] = byte(x >> 24)
	}
	return p
}

// key returns one of many keys.
func key(n int) api.Digest { return api.Digest(some(32 + n)[n:]) }

// macOf is the library's MAC.
func macOf(key api.Digest, parts ...[]byte) []byte {
	h := hmac.New(sha256.New, key[:])
	h.Write(slices.Concat(parts...))
	return h.Sum(nil)
}

// derivedFrom is the key that a job derives, by layer 2's bytes.
func derivedFrom(key api.Digest, in []byte) api.Digest {
	p := []byte("\x00\x00\x00\x03JOB\x00\x00\x00\x01")
	p = binary.BigEndian.AppendUint32(p, uint32(len(in)))
	return api.Digest(macOf(key, p, in))
}

// ciphered is what a mode that there is makes of p, by the library.
func ciphered(key api.Digest, kind int, back bool, start, p []byte) []byte {
	c, err := aes.NewCipher(key[:])
	if err != nil {
		panic(err)
	}
	out := make([]byte, len(p))
	switch {
	case kind == 2:
		cipher.NewCTR(c, start).XORKeyStream(out, p)
	case kind == 1 && back:
		cipher.NewCBCDecrypter(c, start).CryptBlocks(out, p)
	case kind == 1:
		cipher.NewCBCEncrypter(c, start).CryptBlocks(out, p)
	default:
		for i := 0; i < len(p); i += 16 {
			if back {
				c.Decrypt(out[i:], p[i:])
			} else {
				c.Encrypt(out[i:], p[i:])
			}
		}
	}
	return out
}

// must holds that a call which prepares a test succeeds.
func must(t *testing.T, e api.Errno) {
	t.Helper()
	if e != api.OK {
		t.Fatalf("error %d", e)
	}
}

// answered holds that a call has this error.
func answered(t *testing.T, got, want api.Errno) {
	t.Helper()
	if got != want {
		t.Errorf("error %d, not %d", got, want)
	}
}

// same holds that a space holds what the world does, and hides what it hides.
func same(t *testing.T, s *engine.Space, w *world) {
	t.Helper()
	if s.Stage != w.stage || s.RAM != w.ram || s.Port != w.port {
		t.Error("the stage, the RAM or the port differ")
	}
	p, e := s.Flash.Read(0, len(w.flash))
	if s.Flash.Size() != len(w.flash) || !bytes.Equal(p, w.flash) || e != api.OK {
		t.Error("the flash differs")
	}
	if !slices.Equal(s.Chip.Words(), w.fuses[:]) {
		t.Error("the fuses differ")
	}
	for i, locked := range w.locked {
		if s.Chip.Locked(i) != locked {
			t.Errorf("word %d: locked %t", i, !locked)
		}
	}
}

// works holds that an engine holds what the world does, except for its pool,
// which cannot be seen without changing it.
func works(t *testing.T, e *engine.Engine, w *world) {
	t.Helper()
	if got := e.Keyed(); got != w.keyed {
		t.Errorf("%d jobs with keys, not %d", got, w.keyed)
	}
	if got := e.Meas.All(); got != w.regs {
		t.Errorf("registers %x", got)
	}
	if e.Count() != len(w.keys) || e.Dead() != w.dead {
		t.Errorf("%d keys, not %d, dead: %t", e.Count(), len(w.keys), e.Dead())
	}
	for h := range 8 {
		if got := e.Kind(h); got != w.kinds[h] {
			t.Errorf("place %d: kind %d, not %d", h, got, w.kinds[h])
		}
		if w.kinds[h] == 0 {
			continue
		}
		if d, err := e.Mac(h, some(7)); !bytes.Equal(d[:], macOf(w.keys[h], some(7))) || err != api.OK {
			t.Errorf("place %d: error %d, or another key", h, err)
		}
	}
}

// drawsAlike holds that an engine has the world's pool, which becomes another.
func drawsAlike(t *testing.T, e *engine.Engine, w *world) {
	t.Helper()
	if got, want := e.Draw(40), w.draw(40); !bytes.Equal(got, want) {
		t.Errorf("the pool: %x, not %x", got, want)
	}
}
