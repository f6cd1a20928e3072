package meas_test

import (
	"bytes"
	"math/rand"
	"slices"
	"testing"

	"curtilage/api"
	"curtilage/meas"
)

func TestTheExample(t *testing.T) {
	m := extend(t, meas.New(), 0, []byte("a"))
	shows(t, m, state{extended(api.Digest{}, []byte("a"))})
}

// What another program has worked out: of a, of a and b, of nothing.
func TestKnownAnswers(t *testing.T) {
	l := hexes(t,
		"8c374a53782642f7514d087d26a3e733f1b806009a03e04a43b288ef2fa9f9c0",
		"153d5381929b50792d3b22ae9596544af3b0e4805be1555a595e6d2a2734933f",
		"1c9ecec90e28d2461650418635878a5c91e49f47586ecf75f2b0cbb94e897112",
		"38723a2e5e8a17aa7950dc008209944e898f69a7bd10a23c839d341e935fd5ca",
		"56944930b0e74e881227b1b89dd6040cb1b745bda880295bb0081b45f3eae500",
		"eb17a3e999cb9021d7292f145605359d98e9ab415793ec828271a77f7d3b4442",
		"16965593d8796cfcb7eb870761dc66296a320cdd0afc5bc67895db79f63c1cec",
	)
	m := extend(t, meas.New(), 0, []byte("a"))
	m = extend(t, extend(t, m, 3, []byte("a")), 3, []byte("b"))
	m = extend(t, m, 2)
	if all := m.All(); all != (state{l[0], {}, l[2], l[1]}) {
		t.Errorf("registers %x", all)
	}
	if d := meas.New().Digest(); d != l[3] {
		t.Errorf("the digest of new registers: %x", d)
	}
	if d := m.Digest(); d != l[4] {
		t.Errorf("digest %x", d)
	}
	var key api.Digest
	for i := range key {
		key[i] = byte(i)
	}
	s := keyed(t, 5, key[:])
	if q, e := meas.New().Quote(s, 5, nil); q != l[5] || e != api.OK {
		t.Errorf("error %d, the quote of new registers: %x", e, q)
	}
	if q, e := m.Quote(s, 5, []byte("nonce")); q != l[6] || e != api.OK {
		t.Errorf("error %d, quote %x", e, q)
	}
}

func TestNew(t *testing.T) {
	if api.Registers != registers {
		t.Fatalf("%d registers", api.Registers)
	}
	shows(t, meas.New(), state{})
	if meas.New() != meas.New() || !meas.Same(meas.New(), meas.New()) {
		t.Error("two new ones differ")
	}
}

func TestExtend(t *testing.T) {
	for i := range registers {
		m := meas.New()
		var all state
		for n := range 150 {
			p := some(n)
			m = extend(t, m, i, p)
			all[i] = extended(all[i], p)
			shows(t, m, all)
		}
	}
}

// The parts are joined, and none of them are an extension, too.
func TestExtendJoinsItsParts(t *testing.T) {
	m, all := several(t)
	for i := range registers {
		p := some(100)
		want := all
		want[i] = extended(all[i], p)
		for n := range p {
			shows(t, extend(t, m, i, p[:n], p[n:]), want)
		}
		shows(t, extend(t, m, i, nil, p[:64], []byte{}, p[64:], nil), want)
		// But two extensions are not one of both.
		if meas.Same(extend(t, m, i, p), extend(t, extend(t, m, i, p[:50]), i, p[50:])) {
			t.Error("two extensions are as one")
		}
		want[i] = extended(all[i], nil)
		shows(t, extend(t, m, i), want)
		shows(t, extend(t, m, i, nil), want)
		shows(t, extend(t, m, i, []byte{}, nil), want)
	}
}

func TestTheOrderOfExtensions(t *testing.T) {
	a, b := []byte("a"), []byte("b")
	ab := extend(t, extend(t, meas.New(), 1, a), 1, b)
	ba := extend(t, extend(t, meas.New(), 1, b), 1, a)
	if meas.Same(ab, ba) || ab.Digest() == ba.Digest() {
		t.Error("the order makes no difference within a register")
	}
	ab = extend(t, extend(t, meas.New(), 1, a), 2, b)
	ba = extend(t, extend(t, meas.New(), 2, b), 1, a)
	if !meas.Same(ab, ba) || ab != ba {
		t.Error("the order makes a difference between registers")
	}
}

func TestExtendOfNoRegister(t *testing.T) {
	full, all := several(t)
	for _, i := range strangers {
		m, e := meas.New().Extend(i, some(5))
		if e != api.ErrArg || m != meas.New() {
			t.Errorf("register %d: error %d", i, e)
		}
		m, e = full.Extend(i)
		if e != api.ErrArg || m != full {
			t.Errorf("register %d: error %d, or others beside it", i, e)
		}
		shows(t, m, all)
	}
}

// Changing registers does not change any others.
func TestMeasuresAreValues(t *testing.T) {
	m, all := several(t)
	kept := m
	for i := range registers {
		extend(t, m, i, []byte("else"))
	}
	left, right := extend(t, m, 2, []byte("left")), extend(t, m, 2, []byte("right"))
	got := m.All()
	got[1][3] ^= 1
	d, _ := m.Get(2)
	d[0] ^= 1
	if m != kept {
		t.Error("the registers have changed")
	}
	shows(t, m, all)
	want := all
	want[2] = extended(all[2], []byte("left"))
	shows(t, left, want)
	want[2] = extended(all[2], []byte("right"))
	shows(t, right, want)
}

func TestDigestTellsRegistersApart(t *testing.T) {
	seen := map[api.Digest]int{meas.New().Digest(): -1}
	for i := range registers {
		d := extend(t, meas.New(), i, []byte("a")).Digest()
		if j, ok := seen[d]; ok {
			t.Errorf("%d and %d", j, i)
		}
		seen[d] = i
	}
}

func TestSame(t *testing.T) {
	m, _ := several(t)
	again, _ := several(t)
	if !meas.Same(m, again) || !meas.Same(m, m) || m != again {
		t.Error("equal registers")
	}
	for i := range registers {
		other := extend(t, m, i, []byte("x"))
		if meas.Same(m, other) || meas.Same(other, m) {
			t.Errorf("register %d makes no difference", i)
		}
		if one := extend(t, meas.New(), i, []byte("x")); meas.Same(one, meas.New()) || meas.Same(meas.New(), one) {
			t.Errorf("register %d against a new one", i)
		}
		for k := range i {
			if meas.Same(extend(t, meas.New(), i, []byte("x")), extend(t, meas.New(), k, []byte("x"))) {
				t.Errorf("registers %d and %d are as one", i, k)
			}
		}
	}
}

func TestQuote(t *testing.T) {
	m, all := several(t)
	for h := range api.Handles {
		key := some(32 + h)[h:]
		s := keyed(t, h, key)
		for _, n := range []int{0, 1, 4, 16, 31, 32, 63, 64, 65, 127, 128, 255, 256, 1024, 65535, 65536, 1<<24 + 7} {
			if n > 1024 && h > 0 {
				continue
			}
			nonce := some(n)
			q, e := m.Quote(s, h, nonce)
			if e != api.OK || q != quoted(key, nonce, all) {
				t.Errorf("place %d, a nonce of %d bytes: error %d, %x", h, n, e, q)
			}
			if !meas.Check(key, nonce, all, q) {
				t.Errorf("place %d, a nonce of %d bytes: it is not right", h, n)
			}
		}
		q, e := m.Quote(s, h, nil)
		if r, f := m.Quote(s, h, []byte{}); q != r || e != api.OK || f != api.OK {
			t.Error("nil and empty nonces differ")
		}
		if s.Count() != 1 || m.All() != all {
			t.Error("a quote changes something")
		}
	}
}

// The key of a place may be derived; what it is counts, not its kind.
func TestQuoteByADerivedKey(t *testing.T) {
	m, all := several(t)
	s := keyed(t, 0, some(32))
	if e := s.Derive(0, 1, "quote"); e != api.OK {
		t.Fatalf("error %d", e)
	}
	s.Lock() // makes no difference
	q, e := m.Quote(s, 1, some(9))
	if e != api.OK || meas.Check(some(32), some(9), all, q) {
		t.Errorf("error %d, or the quote of another key", e)
	}
	want, e := s.Mac(1, append(append([]byte("QUOT\x00\x00\x00\x09"), some(9)...), joined(all)...))
	if e != api.OK || q != want {
		t.Errorf("error %d, %x, not %x", e, q, want)
	}
}

func TestErrorsOfQuote(t *testing.T) {
	m, _ := several(t)
	s := keyed(t, 2, some(32))
	failing := func(h int, want api.Errno) {
		t.Helper()
		for _, nonce := range [][]byte{nil, some(8)} {
			if q, e := m.Quote(s, h, nonce); q != (api.Digest{}) || e != want {
				t.Errorf("place %d: error %d, not %d; %x", h, e, want, q)
			}
		}
	}
	none := []int{-1, 8, 9, 1<<32 + 2, -1 << 32}
	for _, h := range none {
		failing(h, api.ErrArg)
	}
	for _, h := range []int{0, 1, 3, 7} {
		failing(h, api.ErrNone)
	}
	s.Wipe(2)
	failing(2, api.ErrNone)
	s.Kill()
	for _, h := range append(none, 0, 2, 7) {
		failing(h, api.ErrDead)
	}
	s = nil
	for _, h := range append(none, 0, 2, 7) {
		failing(h, api.ErrNone)
	}
}

// Any other key, nonce, register or quote is not right.
func TestCheck(t *testing.T) {
	m, all := several(t)
	key, nonce := some(32), some(12)
	q, e := m.Quote(keyed(t, 1, key), 1, nonce)
	if e != api.OK || !meas.Check(key, nonce, all, q) {
		t.Fatalf("error %d, or it is not right", e)
	}
	for bit := range 8 * 32 {
		other := q
		other[bit/8] ^= 1 << (bit % 8)
		if meas.Check(key, nonce, all, other) {
			t.Errorf("bit %d of the quote does not count", bit)
		}
		forged := slices.Clone(key)
		forged[bit/8] ^= 1 << (bit % 8)
		if meas.Check(forged, nonce, all, q) {
			t.Errorf("bit %d of the key does not count", bit)
		}
		for i := range all {
			changed := all
			changed[i][bit/8] ^= 1 << (bit % 8)
			if meas.Check(key, nonce, changed, q) {
				t.Errorf("bit %d of register %d does not count", bit, i)
			}
		}
	}
	for bit := range 8 * len(nonce) {
		other := slices.Clone(nonce)
		other[bit/8] ^= 1 << (bit % 8)
		if meas.Check(key, other, all, q) {
			t.Errorf("bit %d of the nonce does not count", bit)
		}
	}
	for n := range nonce {
		if meas.Check(key, nonce[:n], all, q) {
			t.Errorf("the first %d bytes of the nonce are enough", n)
		}
	}
	for i := range all {
		for k := range i {
			swapped := all
			swapped[i], swapped[k] = all[k], all[i]
			if meas.Check(key, nonce, swapped, q) {
				t.Errorf("registers %d and %d swapped", i, k)
			}
		}
	}
	for _, d := range []api.Digest{{}, m.Digest(), all[0], api.Digest(key)} {
		if meas.Check(key, nonce, all, d) {
			t.Errorf("%x", d)
		}
	}
}

// A key of any length is one, by layer 2.
func TestCheckByEveryLengthOfKey(t *testing.T) {
	_, all := several(t)
	for n := range 140 {
		key := some(n)
		q := quoted(key, some(3), all)
		if !meas.Check(key, some(3), all, q) {
			t.Errorf("a key of %d bytes", n)
		}
		if n > 0 && key[n-1] != 0 && meas.Check(key[:n-1], some(3), all, q) {
			t.Errorf("the last byte of %d does not count", n)
		}
	}
	q := quoted(nil, nil, state{})
	if !meas.Check(nil, nil, state{}, q) || !meas.Check([]byte{}, []byte{}, state{}, q) {
		t.Error("nothing at all")
	}
}

// The end of a nonce is not taken for the begin of the registers: their bytes
// would be the same if its length were not among them.
func TestNoncesAndRegistersAreToldApart(t *testing.T) {
	key := some(32)
	m := meas.New() // zero bytes, as the nonces'
	seen := map[api.Digest]int{}
	for n := range 100 {
		q, e := m.Quote(keyed(t, 0, key), 0, make([]byte, n))
		if e != api.OK {
			t.Fatalf("error %d", e)
		}
		if k, ok := seen[q]; ok {
			t.Errorf("nonces of %d and of %d bytes have one quote", k, n)
		}
		seen[q] = n
	}
}

func TestArgumentsAreNeitherChangedNorKept(t *testing.T) {
	store := some(500)
	kept := slices.Clone(store)
	a, b, nonce, key := store[10:20], store[50:150], store[200:210], store[300:332]
	parts := [][]byte{a, b, nil}
	s := keyed(t, 0, key)
	m, e := meas.New().Extend(1, parts[:2]...)
	q, f := m.Quote(s, 0, nonce)
	all := m.All()
	if e != api.OK || f != api.OK || !meas.Check(key, nonce, all, q) {
		t.Fatalf("errors %d and %d, or it is not right", e, f)
	}
	if !bytes.Equal(store, kept) || parts[2] != nil || &parts[0][0] != &a[0] {
		t.Fatal("an argument is changed")
	}
	clear(store)
	shows(t, m, state{1: extended(api.Digest{}, append(slices.Clone(kept[10:20]), kept[50:150]...))})
	if r, e := m.Quote(s, 0, kept[200:210]); r != q || e != api.OK {
		t.Errorf("error %d, %x, not %x", e, r, q)
	}
}

// Many extensions, of any registers, against what the library makes of them.
func TestManyExtensions(t *testing.T) {
	r := rand.New(rand.NewSource(16))
	for range 50 {
		m := meas.New()
		var all state
		for range 100 {
			i := r.Intn(registers+2) - 1
			p := some(r.Intn(200))
			n := r.Intn(len(p) + 1)
			next, e := m.Extend(i, p[:n], p[n:])
			if i < 0 || i >= registers {
				if e != api.ErrArg || next != m {
					t.Fatalf("register %d: error %d", i, e)
				}
				continue
			}
			if e != api.OK || meas.Same(next, m) {
				t.Fatalf("register %d: error %d, or nothing has changed", i, e)
			}
			all[i] = extended(all[i], p)
			m = next
			shows(t, m, all)
		}
	}
}
