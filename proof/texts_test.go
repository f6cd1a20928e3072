package proof

import (
	"bytes"
	"slices"
	"testing"

	"curtilage/api"
	"curtilage/lms"
	"curtilage/ots"
	"curtilage/sha"
)

// Nobody can show a forgery that breaks the hash. So its finds are tested by
// what they are made of: the texts on the way to the root.

// held returns a signer with one signature, of some text.
func held(t *testing.T, height, kind uint32) (holder, []byte) {
	t.Helper()
	s, e := lms.New(1<<32-1<<29+height, kind, [16]byte{1, 2, 3}, api.Digest{4})
	if e != api.OK {
		t.Fatalf("error %d", e)
	}
	sig, _ := s.Sign(api.Digest{5}, []byte("some text"))
	h, ok := hold(s)
	if !ok {
		t.Fatal("no holder")
	}
	return h, sig
}

func TestTextsLeadToTheRoot(t *testing.T) {
	for kind := uint32(1); kind <= 4; kind++ {
		for height := uint32(1); height <= 3; height++ {
			h, _ := held(t, height, kind)
			for q := range uint32(1) << height {
				sig, _ := h.Force(q, api.Digest{6}, []byte("another"))
				l := h.read([]byte("another"), sig).texts()
				last := len(l) - 1
				root := sha.Sum(l[last])
				if !bytes.Equal(root[:], h.Public()[24:]) {
					t.Fatalf("type %d, leaf %d: the last text has the hash %x", kind, q, root)
				}
				for i, text := range l[:last] {
					x := sha.Sum(text)
					if !slices.ContainsFunc(l[i+1:], func(p []byte) bool { return bytes.Contains(p, x[:]) }) {
						t.Fatalf("type %d, leaf %d: the hash of text %d is in none behind it", kind, q, i)
					}
				}
			}
		}
	}
}

func TestTextsHoldAllOfASignature(t *testing.T) {
	h, sig := held(t, 3, 3)
	s := h.read([]byte("some text"), sig)
	all := bytes.Join(s.texts(), nil)
	for _, x := range slices.Concat(s.values, s.path) {
		if !bytes.Contains(all, x[:]) {
			t.Errorf("%x is in no text", x)
		}
	}
	// A step for each position that is left, the ends, the leaf, and the nodes.
	want := 2 + len(s.path)
	for _, j := range s.digits {
		want += 15 - j
	}
	if got := len(s.texts()); got != want {
		t.Errorf("%d texts, not %d", got, want)
	}
}

func TestClashIsTheLastOneThatDiffers(t *testing.T) {
	h, sig := held(t, 2, 3)
	own := h.read([]byte("some text"), sig).texts()
	if f, ok := clash(own, own); ok || f.Kind != 0 || len(f.A) != 0 || len(f.B) != 0 {
		t.Errorf("equal ways clash: %x, %x", f.A, f.B)
	}
	forged := slices.Clone(own)
	for i := range forged {
		forged[i] = append(slices.Clone(own[i]), 1)
		f, ok := clash(own, forged)
		if !ok || f.Kind != 1 || !bytes.Equal(f.A, own[i]) || !bytes.Equal(f.B, forged[i]) {
			t.Fatalf("text %d: %t, %x, %x", i, ok, f.A, f.B)
		}
		if f.Place != (lms.Place{}) || f.Value != (api.Digest{}) {
			t.Fatalf("text %d: with the place %v", i, f.Place)
		}
	}
}

// Whatever is wrong in a signature that leads to the same root, its texts
// differ from those of the signer's own.
func TestEveryOtherValueClashes(t *testing.T) {
	h, sig := held(t, 3, 4)
	own := h.read([]byte("some text"), sig)
	other := func(l []api.Digest, i int) []api.Digest {
		l = slices.Clone(l)
		l[i][31] ^= 1
		return l
	}
	for i := range own.values {
		forged := own
		forged.values = other(own.values, i)
		if _, ok := clash(own.texts(), forged.texts()); !ok {
			t.Errorf("value %d does not count", i)
		}
	}
	for i := range own.path {
		forged := own
		forged.path = other(own.path, i)
		if _, ok := clash(own.texts(), forged.texts()); !ok {
			t.Errorf("node %d does not count", i)
		}
	}
}

func TestStolenIsWhatWasNotRevealed(t *testing.T) {
	for kind := uint32(1); kind <= 4; kind++ {
		h, sig := held(t, 2, kind)
		s := h.read([]byte("some text"), sig)
		if f, ok := h.stolen(s); ok || f.Kind != 0 {
			t.Errorf("type %d: %v is stolen", kind, f.Place)
		}
		for i := range s.digits {
			if s.digits[i] == 0 {
				continue
			}
			s.digits[i]--
			want := lms.Place{Q: 0, I: i, J: s.digits[i]}
			if f, ok := h.stolen(s); !ok || f.Kind != 2 || f.Place != want || f.Value != s.values[i] {
				t.Errorf("type %d: %t, %v is stolen, not %v", kind, ok, f.Place, want)
			}
			s.digits[i]++
		}
		s.Q = 1
		if f, ok := h.stolen(s); !ok || f.Place.Q != 1 {
			t.Errorf("type %d: %t, %v is stolen of an unused leaf", kind, ok, f.Place)
		}
	}
}

func TestConfusedTextsAreTheMessages(t *testing.T) {
	h, _ := held(t, 2, 3)
	sig, _ := h.Force(0, api.Digest{7}, []byte("another"))
	f := h.confused(h.read([]byte("another"), sig))
	at := ots.Site{ID: [16]byte{1, 2, 3}}
	if f.Kind != 1 || sha.Sum(f.A) != ots.Mash(at, api.Digest{5}, []byte("some text")) {
		t.Errorf("kind %d, the signer's text %x", f.Kind, f.A)
	}
	if sha.Sum(f.B) != ots.Mash(at, api.Digest{7}, []byte("another")) {
		t.Errorf("the forger's text is %x", f.B)
	}
	if f.Place != (lms.Place{}) || f.Value != (api.Digest{}) {
		t.Errorf("with the place %v", f.Place)
	}
}

func TestFindAsksForCollisionsFirst(t *testing.T) {
	h, sig := held(t, 2, 3)
	own := h.read([]byte("some text"), sig)
	if f := h.find(own, own); f.Kind != 1 || !bytes.Equal(f.A, f.B) || sha.Sum(f.A) != ots.Mash(own.Site, own.c, own.msg) {
		t.Errorf("what was revealed: kind %d, %x", f.Kind, f.A)
	}
	sig, _ = h.Force(1, api.Digest{6}, []byte("another"))
	own = h.read([]byte("another"), sig)
	if f := h.find(own, own); f.Kind != 2 || f.Place.Q != 1 {
		t.Errorf("what was not revealed: kind %d, %v", f.Kind, f.Place)
	}
	forged := own
	forged.path = []api.Digest{own.path[0], {1}}
	if f := h.find(own, forged); f.Kind != 1 || bytes.Equal(f.A, f.B) || len(f.A) != 22+64 {
		t.Errorf("another path: kind %d, %x", f.Kind, f.A)
	}
}

func TestRevealingASignatureRevealsEqualHashesOnly(t *testing.T) {
	for kind := uint32(1); kind <= 4; kind++ {
		h, _ := held(t, 2, kind)
		for n := range byte(30) {
			sig, _ := h.Force(0, api.Digest{n}, []byte("some text"))
			s := h.read([]byte("some text"), sig)
			if _, ok := h.stolen(s); ok == (n == 5) {
				t.Errorf("type %d, C %d: stolen %t", kind, n, ok)
			}
		}
	}
}
