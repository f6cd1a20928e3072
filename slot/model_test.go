package slot_test

import (
	"bytes"
	"math/rand"
	"testing"

	"curtilage/api"
	"curtilage/slot"
)

// model is slots once more, by a map of what they hold.
type model struct {
	held         map[int]held
	locked, dead bool
}

type held struct {
	kind int
	key  api.Digest
}

func newModel() *model { return &model{held: map[int]held{}} }

func (m *model) has(h int) bool {
	_, ok := m.held[h]
	return ok
}

func (m *model) lay(h, kind int, k api.Digest) api.Errno {
	switch {
	case m.dead:
		return api.ErrDead
	case h < 0 || h > 7 || kind < 1 || kind > 3:
		return api.ErrArg
	case m.locked && kind == ofChip:
		return api.ErrLock
	case m.has(h):
		return api.ErrFull
	}
	m.held[h] = held{kind, k}
	return api.OK
}

func (m *model) derive(from, to int, label string, parts ...[]byte) api.Errno {
	switch {
	case m.dead:
		return api.ErrDead
	case from < 0 || from > 7 || to < 0 || to > 7:
		return api.ErrArg
	case !m.has(from):
		return api.ErrNone
	case m.has(to):
		return api.ErrFull
	}
	m.held[to] = held{derived, derivedFrom(m.held[from].key, label, parts...)}
	return api.OK
}

func (m *model) use(h int) api.Errno {
	switch {
	case m.dead:
		return api.ErrDead
	case h < 0 || h > 7:
		return api.ErrArg
	case !m.has(h):
		return api.ErrNone
	}
	return api.OK
}

func (m *model) wipe(l ...int) int {
	n := len(m.held)
	for _, h := range l {
		delete(m.held, h)
	}
	return n - len(m.held)
}

func (m *model) kill() { m.held, m.dead = map[int]held{}, true }

// agree holds that slots and their model show the same, by each place's MAC.
func agree(t *testing.T, s *slot.Slots, m *model) {
	t.Helper()
	kinds := make([]int, places)
	for h, x := range m.held {
		kinds[h] = x.kind
	}
	stands(t, s, kinds...)
	states(t, s, m.locked, m.dead)
	for h := -1; h <= places; h++ {
		want := m.use(h)
		if want != api.OK {
			fails(t, s, h, want)
			continue
		}
		uses(t, s, h, m.held[h].key)
	}
	if t.Failed() {
		t.FailNow()
	}
}

// The calls that are tried after each other, with two places.
const calls = 6 + 4 + 3 + 2

// call makes call number n of slots and their model.
func call(t *testing.T, n int, s *slot.Slots, m *model) {
	t.Helper()
	switch {
	case n < 6:
		answered(t, s.Lay(n%2, 1+n/2, key(n)), m.lay(n%2, 1+n/2, key(n)))
	case n < 10:
		from, to := n%2, (n-6)/2
		answered(t, s.Derive(from, to, "x"), m.derive(from, to, "x"))
	case n < 13:
		l := [][]int{{0}, {1}, {1, 0, 1}}[n-10]
		if got, want := s.Wipe(l...), m.wipe(l...); got != want {
			t.Errorf("%v: %d wiped, not %d", l, got, want)
		}
	case n == 13:
		s.Lock()
		m.locked = true
	default:
		s.Kill()
		m.kill()
	}
}

// Slots have no copies: each sequence is gone through from its begin.
func TestEverySequence(t *testing.T) {
	const length = 4
	sequences := 1
	for range length {
		sequences *= calls
	}
	for i := range sequences {
		s, m := slot.New(), newModel()
		for n, left := 0, i; n < length; n++ {
			call(t, left%calls, s, m)
			left /= calls
		}
		if t.Failed() {
			t.Fatalf("sequence %d", i)
		}
		agree(t, s, m)
	}
}

// Long sequences, of all calls with all arguments. Twins have other keys in the
// same places: nothing but the MACs and the ciphers tells them apart.
func TestManyCalls(t *testing.T) {
	for seed := range int64(40) {
		r := rand.New(rand.NewSource(seed))
		s, m, twin := slot.New(), newModel(), slot.New()
		for range 400 {
			h, to, kind := r.Intn(10)-1, r.Intn(10)-1, r.Intn(5)
			k, p := key(r.Intn(50)), some(r.Intn(100))
			switch n := r.Intn(100); {
			case n < 30:
				want := m.lay(h, kind, k)
				answered(t, s.Lay(h, kind, k), want)
				k[n] ^= 1
				answered(t, twin.Lay(h, kind, k), want)
			case n < 55:
				want := m.derive(h, to, "label", p, nil)
				answered(t, s.Derive(h, to, "label", p, nil), want)
				answered(t, twin.Derive(h, to, "label", p, nil), want)
			case n < 75:
				cipherOfBoth(t, s, twin, m, h, kind-1, p)
			case n < 98:
				want := m.wipe(h, to)
				if a, b := s.Wipe(h, to), twin.Wipe(h, to); a != want || b != want {
					t.Errorf("%d and %d: %d and %d wiped, not %d", h, to, a, b, want)
				}
			case n == 98 && r.Intn(3) == 0:
				s.Lock()
				twin.Lock()
				m.locked = true
			case n == 99 && r.Intn(8) == 0:
				s.Kill()
				twin.Kill()
				m.kill()
			}
			agree(t, s, m)
			alike(t, s, twin)
		}
	}
}

// alike holds that slots and their twin show the same.
func alike(t *testing.T, s, twin *slot.Slots) {
	t.Helper()
	kinds := make([]int, places)
	for h := range kinds {
		kinds[h] = s.Kind(h)
	}
	stands(t, twin, kinds...)
	states(t, twin, s.Locked(), s.Dead())
}

// cipherOfBoth holds what the slots and their twin make of p.
func cipherOfBoth(t *testing.T, s, twin *slot.Slots, m *model, h, kind int, p []byte) {
	t.Helper()
	want := m.use(h)
	if want == api.OK && (kind < 0 || kind > 2 || len(p)%16 != 0) {
		want = api.ErrArg
	}
	start, back := api.Block(some(16)), len(p)%32 == 0
	got, e := s.Cipher(h, kind, back, start, p)
	other, f := twin.Cipher(h, kind, back, start, p)
	if e != want || f != want || len(got) != len(other) {
		t.Fatalf("errors %d and %d, not %d; %d and %d bytes", e, f, want, len(got), len(other))
	}
	if want != api.OK {
		return
	}
	if !bytes.Equal(got, ciphered(t, m.held[h].key, kind, back, start, p)) {
		t.Errorf("place %d, kind %d: %x", h, kind, got)
	}
	if len(p) > 0 && bytes.Equal(got, other) {
		t.Errorf("place %d, kind %d: the key makes no difference", h, kind)
	}
}
