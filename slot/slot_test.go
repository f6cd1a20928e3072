package slot_test

import (
	"bytes"
	"encoding/hex"
	"reflect"
	"slices"
	"strings"
	"testing"

	"curtilage/api"
	"curtilage/mode"
	"curtilage/slot"
)

func TestTheExample(t *testing.T) {
	s := slot.New()
	answered(t, s.Lay(0, 1, key(3)), api.OK)
	answered(t, s.Derive(0, 1, "x"), api.OK)
	d, e := s.Mac(1, []byte("a"), []byte("bc"))
	if d != macOf(derivedFrom(key(3), "x"), []byte("abc")) || e != api.OK {
		t.Errorf("error %d, %x", e, d)
	}
}

// The MAC and the CBC cipher of the key 00 01 .. 1f and of one derived from it,
// as other programs have worked them out.
func TestKnownAnswers(t *testing.T) {
	var k api.Digest
	for i := range k {
		k[i] = byte(i)
	}
	s := slot.New()
	answered(t, s.Lay(0, 1, k), api.OK)
	answered(t, s.Derive(0, 1, "CDI", []byte("ab"), nil), api.OK)
	for h, want := range [][2]string{
		{"0ab40b58e9db7580d9561e28fd1e910c56acaf280cd99d3acc582cbbb66ace09",
			"e23fc0b91c7bd64425c559736e9b0c58e433f35644bdca204927cccec85e493b"},
		{"6d1fbeb2dd5606d52209f69e55ce50fca6a9feeef8449d2a4f86fa5de6e71216",
			"cf1c1ee8cef9797ee04bacf5f8bfb20452dab988ceb2d862ba076911de398ddf"},
	} {
		d, e := s.Mac(h, []byte("kno"), []byte("wn"))
		if hex.EncodeToString(d[:]) != want[0] || e != api.OK {
			t.Errorf("place %d: error %d, MAC %x", h, e, d)
		}
		p, e := s.Cipher(h, mode.CBC, false, api.Block(k[:16]), []byte("0123456789abcdef0123456789abcdef"))
		if hex.EncodeToString(p) != want[1] || e != api.OK {
			t.Errorf("place %d: error %d, cipher %x", h, e, p)
		}
	}
}

func TestNew(t *testing.T) {
	if api.Handles != places {
		t.Fatalf("%d places", api.Handles)
	}
	s := slot.New()
	stands(t, s)
	states(t, s, false, false)
	for h := range places {
		fails(t, s, h, api.ErrNone)
	}
	// Each call makes slots of its own.
	other := slot.New()
	answered(t, other.Lay(0, 1, key(1)), api.OK)
	other.Lock()
	stands(t, s)
	states(t, s, false, false)
	other.Kill()
	states(t, s, false, false)
	states(t, slot.New(), false, false)
}

func TestLay(t *testing.T) {
	for h := range places {
		for kind := ofChip; kind <= software; kind++ {
			s := slot.New()
			answered(t, s.Lay(h, kind, key(h)), api.OK)
			want := make([]int, places)
			want[h] = kind
			stands(t, s, want...)
			uses(t, s, h, key(h))
			for other := range places {
				if other != h {
					fails(t, s, other, api.ErrNone)
				}
			}
		}
	}
}

// Every place has a key of its own; also keys of zero bytes are keys.
func TestThePlacesAreApart(t *testing.T) {
	s := laid(t, 1, 2, 3, 1, 2, 3, 1, 2)
	stands(t, s, 1, 2, 3, 1, 2, 3, 1, 2)
	for h := range places {
		uses(t, s, h, key(h))
	}
	s = slot.New()
	answered(t, s.Lay(5, software, api.Digest{}), api.OK)
	stands(t, s, 0, 0, 0, 0, 0, software)
	uses(t, s, 5, api.Digest{})
	answered(t, s.Lay(5, software, key(1)), api.ErrFull)
}

// Of several errors of Lay, the first one counts.
func TestTheOrderOfLaysErrors(t *testing.T) {
	type state struct{ dead, locked bool }
	for _, x := range []state{{}, {locked: true}, {dead: true}, {true, true}} {
		for _, h := range append([]int{0, 1, 2, 3, 7}, strangers...) {
			for _, kind := range append([]int{1, 2, 3}, notKinds...) {
				s := laid(t, 1, 2, 3)
				if x.locked {
					s.Lock()
				}
				if x.dead {
					s.Kill()
				}
				want := api.OK
				switch {
				case x.dead:
					want = api.ErrDead
				case h < 0 || h > 7 || kind < 1 || kind > 3:
					want = api.ErrArg
				case x.locked && kind == 1:
					want = api.ErrLock
				case h < 3:
					want = api.ErrFull
				}
				if e := s.Lay(h, kind, key(9)); e != want {
					t.Errorf("%+v, place %d, kind %d: error %d, not %d", x, h, kind, e, want)
				}
				kinds := [places]int{1, 2, 3}
				if x.dead {
					kinds = [places]int{}
				} else if want == api.OK {
					kinds[h] = kind
				}
				stands(t, s, kinds[:]...)
				states(t, s, x.locked, x.dead)
			}
		}
	}
}

// What is refused leaves the key that was there.
func TestAFullPlaceKeepsItsKey(t *testing.T) {
	for kind := ofChip; kind <= software; kind++ {
		s := laid(t, kind, 3)
		for other := ofChip; other <= software; other++ {
			answered(t, s.Lay(0, other, key(5)), api.ErrFull)
		}
		answered(t, s.Lay(0, kind, key(0)), api.ErrFull) // also the same one again
		answered(t, s.Derive(1, 0, "x"), api.ErrFull)
		answered(t, s.Derive(0, 0, "x"), api.ErrFull)
		stands(t, s, kind, 3)
		uses(t, s, 0, key(0))
	}
}

func TestDerive(t *testing.T) {
	long := some(300)
	for i, c := range []struct {
		label string
		parts [][]byte
	}{
		{"", nil},
		{"x", nil},
		{"CDI", [][]byte{some(32), {2}}},
		{"JOB", [][]byte{long}},
		{"", [][]byte{nil}},
		{"", [][]byte{{}, {}}},
		{strings.Repeat("label", 60), [][]byte{long[:64], long[64:], nil, {0}}},
		{"\xff\x00\xc3", [][]byte{[]byte("\xff")}},
	} {
		for kind := ofChip; kind <= software; kind++ {
			for from := range places {
				to := (from + 1 + i%7) % places
				s := slot.New()
				answered(t, s.Lay(from, kind, key(i)), api.OK)
				answered(t, s.Derive(from, to, c.label, c.parts...), api.OK)
				want := make([]int, places)
				want[from], want[to] = kind, derived
				stands(t, s, want...)
				uses(t, s, from, key(i))
				uses(t, s, to, derivedFrom(key(i), c.label, c.parts...))
			}
		}
	}
}

// A derived key leads to further ones, also when the first is gone.
func TestDeriveFromDerivedKeys(t *testing.T) {
	s := laid(t, 1)
	k := key(0)
	for h := range places - 1 {
		answered(t, s.Derive(h, h+1, "next", []byte{byte(h)}), api.OK)
		if s.Wipe(h) != 1 {
			t.Errorf("place %d was empty", h)
		}
		k = derivedFrom(k, "next", []byte{byte(h)})
		uses(t, s, h+1, k)
	}
	stands(t, s, 0, 0, 0, 0, 0, 0, 0, derived)
}

// The label and the parts are told apart, as is the order of the parts.
func TestDerivedKeysDiffer(t *testing.T) {
	a, b := []byte("a"), []byte("b")
	seen := map[api.Digest]int{}
	for i, derive := range []func(*slot.Slots) api.Errno{
		func(s *slot.Slots) api.Errno { return s.Derive(0, 1, "ab") },
		func(s *slot.Slots) api.Errno { return s.Derive(0, 1, "a", b) },
		func(s *slot.Slots) api.Errno { return s.Derive(0, 1, "", a, b) },
		func(s *slot.Slots) api.Errno { return s.Derive(0, 1, "", b, a) },
		func(s *slot.Slots) api.Errno { return s.Derive(0, 1, "", []byte("ab")) },
		func(s *slot.Slots) api.Errno { return s.Derive(0, 1, "", []byte("ab"), nil) },
		func(s *slot.Slots) api.Errno { return s.Derive(2, 1, "ab") },
	} {
		s := laid(t, 1, 0, 3)
		answered(t, derive(s), api.OK)
		d, e := s.Mac(1)
		answered(t, e, api.OK)
		if j, ok := seen[d]; ok {
			t.Errorf("%d and %d are one key", j, i)
		}
		seen[d] = i
	}
}

// Of several errors of Derive, the first one counts.
func TestTheOrderOfDerivesErrors(t *testing.T) {
	all := append([]int{0, 1, 2, 3, 4, 7}, strangers...)
	for _, dead := range []bool{false, true} {
		for _, locked := range []bool{false, true} { // makes no difference
			for _, from := range all {
				for _, to := range all {
					s := laid(t, 1, 2, 3)
					if locked {
						s.Lock()
					}
					if dead {
						s.Kill()
					}
					want := api.OK
					switch {
					case dead:
						want = api.ErrDead
					case from < 0 || from > 7 || to < 0 || to > 7:
						want = api.ErrArg
					case from > 2:
						want = api.ErrNone
					case to <= 2:
						want = api.ErrFull
					}
					if e := s.Derive(from, to, "x"); e != want {
						t.Errorf("dead: %t, from %d to %d: error %d, not %d", dead, from, to, e, want)
					}
					kinds := [places]int{1, 2, 3}
					if dead {
						kinds = [places]int{}
					} else if want == api.OK {
						kinds[to] = derived
					}
					stands(t, s, kinds[:]...)
				}
			}
		}
	}
}

func TestMac(t *testing.T) {
	s := laid(t, 1, 2, 3, 1, 2, 3, 1, 2)
	for h := range places {
		for n := range 150 {
			p := some(n)
			for _, parts := range [][][]byte{{p}, {p[:n/2], p[n/2:]}, {nil, p[:n/3], {}, p[n/3:], nil}} {
				if d, e := s.Mac(h, parts...); d != macOf(key(h), p) || e != api.OK {
					t.Fatalf("place %d, %d bytes in %d parts: error %d, %x", h, n, len(parts), e, d)
				}
			}
		}
		if d, e := s.Mac(h); d != macOf(key(h)) || e != api.OK {
			t.Errorf("place %d, no parts: error %d, %x", h, e, d)
		}
	}
	stands(t, s, 1, 2, 3, 1, 2, 3, 1, 2)
}

func TestCipher(t *testing.T) {
	s := laid(t, 1, 2, 3, 1, 2, 3, 1, 2)
	starts := []api.Block{{}, api.Block(some(16)), api.Block(bytes.Repeat([]byte{0xff}, 16))}
	for h := range places {
		for kind := mode.ECB; kind <= mode.CTR; kind++ {
			for _, back := range []bool{false, true} {
				for i, start := range starts {
					p := some(16 * (h + i))
					want := ciphered(t, key(h), kind, back, start, p)
					if got, e := s.Cipher(h, kind, back, start, p); !bytes.Equal(got, want) || e != api.OK {
						t.Errorf("place %d, kind %d, back: %t, %d bytes: error %d, %x", h, kind, back, len(p), e, got)
					}
				}
			}
		}
	}
	// Each call begins with its start again, and what it makes can be undone.
	for kind := mode.ECB; kind <= mode.CTR; kind++ {
		first, _ := s.Cipher(3, kind, false, starts[1], some(64))
		again, _ := s.Cipher(3, kind, false, starts[1], some(64))
		undone, _ := s.Cipher(3, kind, true, starts[1], first)
		if !bytes.Equal(first, again) || !bytes.Equal(undone, some(64)) {
			t.Errorf("kind %d: %x, %x, %x", kind, first, again, undone)
		}
	}
}

// Of several errors of Cipher, the first one counts.
func TestTheOrderOfCiphersErrors(t *testing.T) {
	for _, dead := range []bool{false, true} {
		for _, h := range append([]int{0, 1, 2, 3, 7}, strangers...) {
			for _, kind := range []int{-1, 0, 1, 2, 3, 256, 1 << 32} {
				for _, n := range []int{0, 1, 15, 16, 17, 31, 32} {
					s := laid(t, 1, 2, 3)
					if dead {
						s.Kill()
					}
					want := api.OK
					switch {
					case dead:
						want = api.ErrDead
					case h < 0 || h > 7:
						want = api.ErrArg
					case h > 2:
						want = api.ErrNone
					case kind < 0 || kind > 2 || n%16 != 0:
						want = api.ErrArg
					}
					p, e := s.Cipher(h, kind, n == 32, api.Block{}, some(n))
					if e != want || want != api.OK && len(p) != 0 || want == api.OK && len(p) != n {
						t.Errorf("dead: %t, place %d, kind %d, %d bytes: error %d, not %d; %x", dead, h, kind, n, e, want, p)
					}
				}
			}
		}
	}
}

func TestMacAndCipherOfNoPlace(t *testing.T) {
	s := laid(t, 1, 2, 3, 1, 2, 3, 1, 2)
	for _, h := range strangers {
		fails(t, s, h, api.ErrArg)
	}
	if s.Wipe(3) != 1 {
		t.Error("place 3 was empty")
	}
	fails(t, s, 3, api.ErrNone)
}

func TestWipe(t *testing.T) {
	for _, c := range []struct {
		l    []int
		want int
		left []int
	}{
		{nil, 0, []int{1, 0, 3, 0, 2, 1, 0, 3}},
		{[]int{0}, 1, []int{0, 0, 3, 0, 2, 1, 0, 3}},
		{[]int{1}, 0, []int{1, 0, 3, 0, 2, 1, 0, 3}},
		{[]int{7, 0}, 2, []int{0, 0, 3, 0, 2, 1, 0, 0}},
		{[]int{4, 4, 4}, 1, []int{1, 0, 3, 0, 0, 1, 0, 3}},
		{[]int{1, 3, 6}, 0, []int{1, 0, 3, 0, 2, 1, 0, 3}},
		{[]int{-1, 8, 5, 1 << 32, -8}, 1, []int{1, 0, 3, 0, 2, 0, 0, 3}},
		{[]int{0, 1, 2, 3, 4, 5, 6, 7}, 5, nil},
		{[]int{7, 6, 5, 4, 3, 2, 1, 0, 7, 6}, 5, nil},
		{strangers, 0, []int{1, 0, 3, 0, 2, 1, 0, 3}},
	} {
		for _, locked := range []bool{false, true} { // makes no difference
			s := laid(t, 1, 0, 3, 0, 2, 1, 0, 3)
			if locked {
				s.Lock()
			}
			if got := s.Wipe(c.l...); got != c.want {
				t.Errorf("%v: %d wiped, not %d", c.l, got, c.want)
			}
			stands(t, s, c.left...)
			states(t, s, locked, false)
			for h, kind := range c.left {
				if kind != 0 {
					uses(t, s, h, key(h))
				}
			}
			if got := s.Wipe(c.l...); got != 0 {
				t.Errorf("%v again: %d wiped", c.l, got)
			}
		}
	}
}

// A place that was wiped takes another key, and nothing is left of the first.
func TestAWipedPlaceIsUsedAgain(t *testing.T) {
	s := laid(t, 1, 3)
	for i := range 20 {
		if s.Wipe(0) != 1 {
			t.Fatal("it was empty")
		}
		fails(t, s, 0, api.ErrNone)
		answered(t, s.Derive(0, 2, "x"), api.ErrNone)
		if i%2 == 0 {
			answered(t, s.Lay(0, software, key(i)), api.OK)
			uses(t, s, 0, key(i))
		} else {
			answered(t, s.Derive(1, 0, "y", []byte{byte(i)}), api.OK)
			uses(t, s, 0, derivedFrom(key(1), "y", []byte{byte(i)}))
		}
	}
}

// Slots whose keys are gone are as slots that never had them.
func TestNothingIsLeftOfAKey(t *testing.T) {
	s := laid(t, 1, 2, 3, 1, 2, 3, 1)
	answered(t, s.Derive(0, 7, "x"), api.OK)
	if s.Wipe(0, 1, 2, 3, 4, 5, 6, 7) != places || !reflect.DeepEqual(s, slot.New()) {
		t.Error("something is left of what was wiped")
	}
	s, blank := laid(t, 1, 2, 3, 1, 2, 3, 1, 2), slot.New()
	s.Kill()
	blank.Kill()
	if !reflect.DeepEqual(s, blank) {
		t.Error("something is left of what was killed")
	}
}

func TestLock(t *testing.T) {
	s := laid(t, 1, 0, 3)
	for range 2 {
		s.Lock()
		states(t, s, true, false)
		stands(t, s, 1, 0, 3)
		answered(t, s.Lay(1, ofChip, key(1)), api.ErrLock)
	}
	// Those that are there remain, and others may still be stored.
	uses(t, s, 0, key(0))
	answered(t, s.Derive(0, 1, "x"), api.OK)
	answered(t, s.Lay(3, derived, key(3)), api.OK)
	answered(t, s.Lay(4, software, key(4)), api.OK)
	stands(t, s, 1, 2, 3, 2, 3)
	// A key of the chip that is wiped does not come back.
	if s.Wipe(0) != 1 {
		t.Error("place 0 was empty")
	}
	answered(t, s.Lay(0, ofChip, key(0)), api.ErrLock)
	answered(t, s.Lay(0, software, key(0)), api.OK)
	uses(t, s, 0, key(0))
}

func TestKill(t *testing.T) {
	for _, locked := range []bool{false, true} {
		s := laid(t, 1, 2, 3, 1, 2, 3, 1)
		if locked {
			s.Lock()
		}
		for range 2 {
			s.Kill()
			states(t, s, locked, true)
			stands(t, s)
			for h := range places {
				answered(t, s.Lay(h, 1+h%3, key(h)), api.ErrDead)
				answered(t, s.Derive(h, (h+1)%places, "x"), api.ErrDead)
				fails(t, s, h, api.ErrDead)
			}
			for _, h := range strangers {
				answered(t, s.Lay(h, 9, key(1)), api.ErrDead)
				answered(t, s.Derive(h, 0, "x"), api.ErrDead)
				fails(t, s, h, api.ErrDead)
			}
			if got := s.Wipe(0, 1, 2, 3, 4, 5, 6, 7); got != 0 {
				t.Errorf("%d wiped", got)
			}
			states(t, s, locked, true)
			stands(t, s)
		}
	}
	s := slot.New()
	s.Kill()
	s.Lock()
	states(t, s, true, true)
}

func TestNil(t *testing.T) {
	var s *slot.Slots
	for _, h := range append([]int{0, 1, 7}, strangers...) {
		answered(t, s.Lay(h, 1, key(1)), api.ErrNone)
		answered(t, s.Lay(h, 9, key(1)), api.ErrNone)
		answered(t, s.Derive(h, 1, "x", some(3)), api.ErrNone)
		answered(t, s.Derive(1, h, "x"), api.ErrNone)
		fails(t, s, h, api.ErrNone)
		if p, e := s.Cipher(h, 9, true, api.Block{}, some(3)); len(p) != 0 || e != api.ErrNone {
			t.Errorf("error %d, %x", e, p)
		}
		if n := s.Wipe(h, 0, 1); n != 0 {
			t.Errorf("%d wiped", n)
		}
	}
	s.Lock()
	s.Kill()
	states(t, s, false, false)
	stands(t, s)
}

func TestArgumentsAreNeitherChangedNorKept(t *testing.T) {
	store := some(400)
	kept := slices.Clone(store)
	a, b := store[10:26], store[100:164]
	parts := [][]byte{a, b, nil}
	list := []int{5, 6, 5}
	s := laid(t, 1)
	answered(t, s.Derive(0, 1, "x", parts[:2]...), api.OK)
	answered(t, s.Derive(0, 2, "x", parts...), api.OK)
	d, e := s.Mac(1, parts[:2]...)
	answered(t, e, api.OK)
	var made [][]byte
	for kind := mode.ECB; kind <= mode.CTR; kind++ {
		for _, back := range []bool{false, true} {
			p, e := s.Cipher(0, kind, back, api.Block(a), b)
			answered(t, e, api.OK)
			made = append(made, p)
		}
	}
	s.Wipe(list[:2]...)
	if !bytes.Equal(store, kept) || !slices.Equal(list, []int{5, 6, 5}) || parts[2] != nil || &parts[0][0] != &a[0] {
		t.Fatal("an argument is changed")
	}
	clear(store)
	a, b = kept[10:26], kept[100:164]
	uses(t, s, 1, derivedFrom(key(0), "x", a, b))
	uses(t, s, 2, derivedFrom(key(0), "x", a, b, nil))
	if d != macOf(derivedFrom(key(0), "x", a, b), a, b) {
		t.Error("an argument is kept")
	}
	for i, p := range made {
		if !bytes.Equal(p, ciphered(t, key(0), i/2, i%2 == 1, api.Block(a), b)) {
			t.Errorf("cipher %d has changed", i)
		}
		p = p[:cap(p)]
		clear(p) // which is nobody else's
	}
	uses(t, s, 0, key(0))
}

// Only a MAC and a cipher come out, and neither has the bytes of the key.
func TestNoMethodReturnsAKey(t *testing.T) {
	slots := reflect.TypeFor[*slot.Slots]()
	for i := range slots.NumMethod() {
		m := slots.Method(i)
		for k := range m.Type.NumOut() {
			switch out := m.Type.Out(k); out.Kind() {
			case reflect.Int, reflect.Bool:
			default:
				if m.Name != "Mac" && m.Name != "Cipher" {
					t.Errorf("%s returns %s", m.Name, out)
				}
			}
		}
	}
	for i := range slots.Elem().NumField() {
		if f := slots.Elem().Field(i); f.IsExported() {
			t.Errorf("the field %s can be read", f.Name)
		}
	}
	s := laid(t, 1)
	k := key(0)
	for n := range 100 {
		d, _ := s.Mac(0, make([]byte, n))
		if bytes.Contains(d[:], k[:4]) {
			t.Errorf("MAC of %d bytes: %x", n, d)
		}
		for kind := range 3 {
			for _, back := range []bool{false, true} {
				p, _ := s.Cipher(0, kind, back, api.Block{}, make([]byte, 16*n))
				if bytes.Contains(p, k[:4]) {
					t.Errorf("kind %d, %d bytes: %x", kind, len(p), p)
				}
			}
		}
	}
}
