package proof_test

import (
	"bytes"
	"encoding/binary"
	"math"
	"slices"
	"testing"

	"curtilage/api"
	"curtilage/lms"
	"curtilage/ots"
	"curtilage/proof"
)

const private = 1<<32 - 1<<29

// noTypes are some numbers without a type.
var noTypes = []uint32{0, 10, private, private + 5, 1<<32 - 1}

// some returns n bytes without a short period.
func some(n int) []byte {
	p := make([]byte, n)
	x := uint32(n)*2654435761 + 1
	for i := range p {
		x = x*1664525 + 1013904223
		p[i] = byte(x >> 24)
	}
	return p
}

func digestOf(n int) api.Digest { return api.Digest(some(32 + n)[n:]) }

// tree is a signer, with what it was made of.
type tree struct {
	*lms.Signer
	ots    uint32
	leaves uint32
	id     [16]byte
	seed   api.Digest
}

func treeOf(t *testing.T, height int, ots uint32) tree {
	t.Helper()
	x := tree{ots: ots, leaves: 1 << height, id: [16]byte{15: byte(ots)}, seed: digestOf(height)}
	kind := uint32(private + height)
	if height == 5 {
		kind = 5
	}
	s, e := lms.New(kind, ots, x.id, x.seed)
	if e != api.OK {
		t.Fatalf("height %d, type %d: error %d", height, ots, e)
	}
	x.Signer = s
	return x
}

// signed returns a signature by x of message n.
func (x tree) signed(t *testing.T, n int) []byte {
	t.Helper()
	sig, e := x.Sign(digestOf(n), some(n))
	if e != api.OK {
		t.Fatalf("message %d: error %d", n, e)
	}
	return sig
}

// forced returns what a forger who has the seed signs message n with.
func (x tree) forced(t *testing.T, q uint32, n int) []byte {
	t.Helper()
	sig, e := x.Force(q, digestOf(n), some(n))
	if e != api.OK {
		t.Fatalf("leaf %d, message %d: error %d", q, n, e)
	}
	return sig
}

// value returns the value of a place, by the RFC's section 4.
func (x tree) value(p lms.Place) api.Digest {
	at := ots.Site{ID: x.id, Q: p.Q}
	v := ots.Secret(at, p.I, x.seed)
	for j := range p.J {
		v = ots.Step(at, p.I, j, v)
	}
	return v
}

// found holds that message n, signed by force, leads to a find.
func (x tree) found(t *testing.T, q uint32, n int) proof.Find {
	t.Helper()
	sig := x.forced(t, q, n)
	f, e := proof.Extract(x.Signer, x.seed, some(n), sig)
	if e != api.OK || !proof.Right(x.Signer, x.seed, f) {
		t.Fatalf("type %d, leaf %d, message %d: error %d, kind %d", x.ots, q, n, e, f.Kind)
	}
	// No hash is broken here, so the find is a value; and it is the forger's.
	if f.Kind != 2 || len(f.A) != 0 || len(f.B) != 0 || f.Place.Q != q {
		t.Errorf("type %d, leaf %d, message %d: %d, %v, %x, %x", x.ots, q, n, f.Kind, f.Place, f.A, f.B)
	}
	if f.Value != x.value(f.Place) || x.Knows(f.Place) || !bytes.Contains(sig, f.Value[:]) {
		t.Errorf("type %d, leaf %d, message %d: the find %v is not one", x.ots, q, n, f.Place)
	}
	return f
}

func TestTheExample(t *testing.T) {
	for ots := range uint32(4) {
		x := treeOf(t, 2, ots+1)
		x.signed(t, 1)
		if f := x.found(t, 0, 2); f.Kind != 2 {
			t.Errorf("type %d: kind %d", ots+1, f.Kind)
		}
	}
}

func TestEveryForgeryLeadsToAFind(t *testing.T) {
	for height := 1; height <= 5; height++ {
		x := treeOf(t, height, uint32(height-1)%3+1)
		for q := range min(x.leaves, 5) {
			for n := 100; n < 106; n++ {
				x.found(t, q, n)
			}
			x.signed(t, int(q))
			for n := 100; n < 106; n++ {
				x.found(t, q, n)
				x.found(t, x.leaves-1, n)
			}
		}
	}
}

func TestAFindIsBeforeWhatWasRevealed(t *testing.T) {
	x := treeOf(t, 1, 4)
	x.signed(t, 0)
	at := ots.Site{ID: x.id}
	revealed := ots.Digits(4, ots.Mash(at, digestOf(0), some(0)))
	for n := 1; n < 40; n++ {
		if p := x.found(t, 0, n).Place; p.J >= revealed[p.I] {
			t.Errorf("message %d: position %d of chain %d was revealed", n, p.J, p.I)
		}
	}
}

func TestForgeriesWithTheSameC(t *testing.T) {
	x := treeOf(t, 1, 2)
	x.signed(t, 7)
	sig, _ := x.Force(0, digestOf(7), some(8))
	if f, e := proof.Extract(x.Signer, x.seed, some(8), sig); e != api.OK || !proof.Right(x.Signer, x.seed, f) {
		t.Errorf("error %d, kind %d", e, f.Kind)
	}
}

func TestForgeriesOfNoBytes(t *testing.T) {
	x := treeOf(t, 1, 3)
	x.found(t, 0, 0)
	x.signed(t, 5)
	x.found(t, 0, 0)
	// A leaf that has signed no bytes with a C of zeros is used all the same.
	sig, _ := x.Sign(api.Digest{}, nil)
	x.found(t, 1, 6)
	if f, e := proof.Extract(x.Signer, x.seed, nil, sig); e != api.ErrUsed || !empty(f) {
		t.Errorf("error %d, kind %d", e, f.Kind)
	}
}

func empty(f proof.Find) bool {
	return f.Kind == 0 && len(f.A) == 0 && len(f.B) == 0 && f.Place == lms.Place{} && f.Value == api.Digest{}
}

// rejected holds that Extract returns the error, and no find.
func rejected(t *testing.T, s *lms.Signer, seed api.Digest, msg, sig []byte, want api.Errno) {
	t.Helper()
	if f, e := proof.Extract(s, seed, msg, sig); e != want || !empty(f) {
		t.Errorf("%d bytes: error %d, kind %d", len(sig), e, f.Kind)
	}
}

func TestErrorsOfExtract(t *testing.T) {
	x := treeOf(t, 2, 3)
	good := x.signed(t, 4)
	put := func(i int, v uint32) []byte {
		sig := slices.Clone(good)
		binary.BigEndian.PutUint32(sig[i:], v)
		return sig
	}
	rejected(t, x.Signer, x.seed, some(4), good, api.ErrUsed)
	rejected(t, x.Signer, x.seed, some(4), x.forced(t, 2, 4), api.ErrUsed)
	for _, msg := range [][]byte{some(4), some(5), nil} { // what was signed, or not
		for _, sig := range [][]byte{nil, good[:4], good[:7], good[:len(good)-1], append(slices.Clone(good), 0), put(0, 4), put(0, 1<<31)} {
			rejected(t, x.Signer, x.seed, msg, sig, api.ErrForm)
		}
		for _, n := range noTypes {
			rejected(t, x.Signer, x.seed, msg, put(4, n), api.ErrType)
			rejected(t, x.Signer, x.seed, msg, put(len(good)-2*32-4, n), api.ErrType)
		}
		rejected(t, x.Signer, x.seed, msg, put(0, 1), api.ErrSign)
		rejected(t, x.Signer, x.seed, msg, put(8, 0), api.ErrSign)
		rejected(t, x.Signer, x.seed, msg, put(len(good)-4, 0), api.ErrSign)
	}
	rejected(t, x.Signer, x.seed, some(5), good, api.ErrSign)
	for _, height := range []int{1, 3} {
		sig := treeOf(t, height, 3).forced(t, 0, 5)
		rejected(t, x.Signer, x.seed, some(5), sig, api.ErrType)
	}
	sig := treeOf(t, 2, 4).forced(t, 0, 5)
	rejected(t, x.Signer, x.seed, some(5), sig, api.ErrType)
}

func TestNoSigner(t *testing.T) {
	x := treeOf(t, 1, 3)
	for _, sig := range [][]byte{x.signed(t, 1), x.forced(t, 1, 2), nil, {1}} {
		rejected(t, nil, x.seed, some(1), sig, api.ErrNone)
		rejected(t, nil, api.Digest{}, nil, sig, api.ErrNone)
	}
	p := lms.Place{Q: 1}
	for _, s := range []*lms.Signer{nil, {}} {
		if v, ok := proof.Value(s, x.seed, p); ok || v != (api.Digest{}) {
			t.Errorf("Value: %t, %x", ok, v)
		}
		for _, f := range []proof.Find{{}, {Kind: 1, A: some(1), B: some(2)}, {Kind: 2, Place: p, Value: x.value(p)}, {Kind: 2}} {
			if proof.Right(s, x.seed, f) {
				t.Errorf("a find of kind %d is right", f.Kind)
			}
		}
	}
}

func TestValue(t *testing.T) {
	for kind, end := range map[uint32]int{1: 1, 2: 3, 3: 15, 4: 255} {
		x := treeOf(t, 2, kind)
		for q := range x.leaves {
			last := len(ots.Digits(kind, api.Digest{})) - 1
			for _, i := range []int{0, 1, last / 2, last - 1, last} {
				for _, j := range []int{0, 1, end / 2, end - 1, end} {
					p := lms.Place{Q: q, I: i, J: j}
					if v, ok := proof.Value(x.Signer, x.seed, p); !ok || v != x.value(p) {
						t.Errorf("type %d, %v: %t, %x", kind, p, ok, v)
					}
					if v, ok := proof.Value(x.Signer, digestOf(99), p); !ok || v == x.value(p) {
						t.Errorf("type %d, %v, another seed: %t, %x", kind, p, ok, v)
					}
				}
			}
		}
	}
}

// noPlaces are places that a tree of height 2 and type 3 does not have.
func noPlaces() []lms.Place {
	var l []lms.Place
	for _, q := range []uint32{4, 5, 8, 1 << 31, 1<<32 - 1} {
		l = append(l, lms.Place{Q: q, I: 66, J: 15})
	}
	for _, n := range []int{math.MinInt, math.MinInt32, -256, -1, 67, 68, 256, 1 << 16, 1 << 32, math.MaxInt} {
		l = append(l, lms.Place{I: n}, lms.Place{Q: 3, I: n, J: 15}, lms.Place{J: n}, lms.Place{I: n, J: n})
	}
	return append(l, lms.Place{J: 16}, lms.Place{Q: 3, I: 66, J: 17})
}

func TestValueOfNoPlace(t *testing.T) {
	x := treeOf(t, 2, 3)
	for range 2 {
		for _, p := range noPlaces() {
			v, ok := proof.Value(x.Signer, x.seed, p)
			if ok || v != (api.Digest{}) {
				t.Errorf("%v: %t, %x", p, ok, v)
			}
			if proof.Right(x.Signer, x.seed, proof.Find{Kind: 2, Place: p, Value: v}) {
				t.Errorf("%v is a find", p)
			}
		}
		x.signed(t, 1)
	}
}

func TestRightOfValues(t *testing.T) {
	x := treeOf(t, 1, 3)
	x.signed(t, 3)
	revealed := ots.Digits(3, ots.Mash(ots.Site{ID: x.id}, digestOf(3), some(3)))
	for i, from := range revealed {
		for j := range 16 {
			for q := range uint32(2) {
				p := lms.Place{Q: q, I: i, J: j}
				f := proof.Find{Kind: 2, Place: p, Value: x.value(p)}
				want := q == 1 || j < from
				if got := proof.Right(x.Signer, x.seed, f); got != want {
					t.Fatalf("%v: %t", p, got)
				}
				if proof.Right(x.Signer, digestOf(98), f) {
					t.Fatalf("%v: right by another seed", p)
				}
				for _, other := range []api.Digest{{}, x.value(lms.Place{Q: q, I: i, J: (j + 1) % 16}), x.value(lms.Place{Q: 1 - q, I: i, J: j})} {
					f.Value = other
					if proof.Right(x.Signer, x.seed, f) {
						t.Fatalf("%v: another value is right", p)
					}
				}
			}
		}
	}
}

func TestRightOfTexts(t *testing.T) {
	x := treeOf(t, 1, 3)
	for _, l := range [][2][]byte{
		{nil, nil}, {nil, {}}, {some(3), some(3)}, {some(55), some(55)}, // the same
		{nil, {0}}, {some(3), some(4)}, {some(3), some(3)[:2]}, {{0}, {0, 0}}, // not the same hash
	} {
		if proof.Right(x.Signer, x.seed, proof.Find{Kind: 1, A: l[0], B: l[1]}) {
			t.Errorf("%x and %x are a find", l[0], l[1])
		}
	}
}

func TestRightOfOtherKinds(t *testing.T) {
	x := treeOf(t, 1, 3)
	f := x.found(t, 0, 1)
	for _, kind := range []int{math.MinInt, -2, -1, 0, 1, 3, 4, 258, 1<<32 + 2, math.MaxInt} {
		f.Kind = kind
		if proof.Right(x.Signer, x.seed, f) {
			t.Errorf("a find of kind %d is right", kind)
		}
	}
	f.Kind, f.A, f.B = 2, some(1), some(1)
	if !proof.Right(x.Signer, x.seed, f) {
		t.Error("the texts of a value count")
	}
}

func TestAFindIsOneNoMoreOnceRevealed(t *testing.T) {
	x := treeOf(t, 1, 3)
	f := x.found(t, 0, 9)
	x.signed(t, 9)
	if proof.Right(x.Signer, x.seed, f) {
		t.Error("what was revealed is a find")
	}
	if f := x.found(t, 1, 8); f.Place.Q != 1 {
		t.Errorf("leaf %d", f.Place.Q)
	}
}

func TestAnotherSeedLeadsToTheSameFind(t *testing.T) {
	x := treeOf(t, 1, 3)
	x.signed(t, 1)
	for q := range uint32(2) {
		f, e := proof.Extract(x.Signer, digestOf(97), some(2), x.forced(t, q, 2))
		if e != api.OK || !proof.Right(x.Signer, x.seed, f) || proof.Right(x.Signer, digestOf(97), f) {
			t.Errorf("error %d, kind %d", e, f.Kind)
		}
	}
}

func TestArgumentsAreNeitherChangedNorKept(t *testing.T) {
	x := treeOf(t, 1, 3)
	x.signed(t, 1)
	store := slices.Concat(x.forced(t, 0, 20), some(20), some(100))
	kept := slices.Clone(store)
	n := len(store) - 120
	f, e := proof.Extract(x.Signer, x.seed, store[n:n+20], store[:n])
	clash := proof.Find{Kind: 1, A: store[:n], B: store[n : n+20]}
	if e != api.OK || proof.Right(x.Signer, x.seed, clash) || !bytes.Equal(store, kept) {
		t.Fatalf("error %d", e)
	}
	clear(store)
	if !proof.Right(x.Signer, x.seed, f) || x.Left() != 1 || x.Signed(some(20)) || !x.Signed(some(1)) {
		t.Error("a find hangs on its arguments, or changes the signer")
	}
}
