package lms_test

import (
	"bytes"
	"math"
	"slices"
	"testing"

	"curtilage/api"
	"curtilage/lms"
	"curtilage/ots"
)

// small are trees of each height and of each one-time type.
var small = []tree{
	treeOf(private+1, 1, 1), treeOf(private+1, 4, 2), treeOf(private+2, 2, 3),
	treeOf(private+3, 3, 4), treeOf(private+4, 3, 5), treeOf(5, 2, 6),
}

func TestTheExample(t *testing.T) {
	s, e := lms.New(1<<32-1<<29+1, 4, [16]byte{1}, api.Digest{2})
	if e != api.OK {
		t.Fatalf("error %d", e)
	}
	for i, text := range []string{"first", "second"} {
		sig := signed(t, s, api.Digest{byte(i)}, []byte(text))
		if e := lms.Verify(s.Public(), []byte(text), sig); e != api.OK {
			t.Errorf("%s: error %d", text, e)
		}
	}
	for range 3 {
		if sig, e := s.Sign(api.Digest{3}, []byte("third")); e != api.ErrUsed || len(sig) != 0 {
			t.Errorf("the third: error %d, %d bytes", e, len(sig))
		}
	}
	if s.Signed([]byte("third")) || s.Left() != 0 {
		t.Error("the third is recorded")
	}
}

func TestNewOfTypesThatThereAreNot(t *testing.T) {
	rejected := func(tall, kind uint32) {
		if s, e := lms.New(tall, kind, idOf(1), digestOf(1)); e != api.ErrType || s != nil {
			t.Errorf("types %x and %d: error %d, %t", tall, kind, e, s == nil)
		}
	}
	for _, n := range append(noTypes, 7, 8, 9) {
		rejected(n, 4)
		rejected(n, 5)
	}
	for _, n := range noOnes {
		rejected(private+1, n)
		rejected(5, n)
		rejected(9, n)
	}
}

func TestPublic(t *testing.T) {
	for _, x := range small {
		s := x.signer(t)
		if got := s.Public(); !bytes.Equal(got, x.pub(x.node(1))) {
			t.Errorf("types %x and %d: %x", x.t, x.ots, got)
		}
		signed(t, s, digestOf(1), nil)
		if got := s.Public(); !bytes.Equal(got, x.pub(x.node(1))) {
			t.Errorf("types %x and %d, after a signature: %x", x.t, x.ots, got)
		}
	}
}

func TestSignUsesTheLeavesInTurn(t *testing.T) {
	for _, x := range small {
		s := x.signer(t)
		for q := range x.leaves() {
			if s.Left() != int(x.leaves()-q) {
				t.Errorf("type %x: %d left behind %d", x.t, s.Left(), q)
			}
			c, msg := digestOf(int(q)), some(3*int(q))
			sig := signed(t, s, c, msg)
			if q < 5 && !bytes.Equal(sig, x.sign(q, c, msg)) {
				t.Errorf("type %x: leaf %d signs otherwise", x.t, q)
			}
			if e := lms.Verify(s.Public(), msg, sig); e != api.OK {
				t.Errorf("type %x, leaf %d: error %d", x.t, q, e)
			}
			if got, _, tall, _, e := lms.Parts(sig); e != api.OK || got != q || tall != x.t {
				t.Errorf("type %x: error %d, leaf %d, not %d", tall, e, got, q)
			}
		}
		if sig, e := s.Sign(digestOf(1), nil); e != api.ErrUsed || len(sig) != 0 || s.Left() != 0 {
			t.Errorf("type %x: error %d, %d bytes, %d left", x.t, e, len(sig), s.Left())
		}
	}
}

func TestForce(t *testing.T) {
	for _, x := range small[1:4] {
		s, c, msg := x.signer(t), digestOf(9), some(50)
		first := signed(t, s, c, msg)
		for q := range x.leaves() {
			sig := forced(t, s, q, c, msg)
			if !bytes.Equal(sig, x.sign(q, c, msg)) || lms.Verify(s.Public(), msg, sig) != api.OK {
				t.Errorf("type %x: leaf %d signs otherwise", x.t, q)
			}
		}
		if !bytes.Equal(forced(t, s, 0, c, msg), first) {
			t.Errorf("type %x: Force signs otherwise than Sign", x.t)
		}
		for _, q := range []uint32{x.leaves(), x.leaves() + 1, 2 * x.leaves(), 1 << 31, 1<<32 - 1} {
			if sig, e := s.Force(q, c, msg); e != api.ErrArg || len(sig) != 0 {
				t.Errorf("type %x, leaf %d: error %d, %d bytes", x.t, q, e, len(sig))
			}
		}
	}
}

func TestForceRecordsNothing(t *testing.T) {
	x := treeOf(private+1, 4, 11)
	s, c, msg := x.signer(t), digestOf(9), some(50)
	holds := func(left int, last []byte, lastC api.Digest) {
		t.Helper()
		for q := range uint32(2) {
			forced(t, s, q, c, msg)
		}
		if s.Left() != left || s.Signed(msg) || s.Knows(lms.Place{Q: 1, I: 0, J: 255}) {
			t.Errorf("%d left, signed %t", s.Left(), s.Signed(msg))
		}
		if got, gotC := s.Last(0); !bytes.Equal(got, last) || gotC != lastC {
			t.Errorf("the last message is %x", got)
		}
		if got, gotC := s.Last(1); len(got) != 0 || gotC != (api.Digest{}) {
			t.Errorf("the last message is %x", got)
		}
	}
	holds(2, nil, api.Digest{})
	sig := signed(t, s, digestOf(8), some(7))
	if q, _, _, _, _ := lms.Parts(sig); q != 0 {
		t.Errorf("leaf %d signs first", q)
	}
	holds(1, some(7), digestOf(8))
	signed(t, s, digestOf(8), some(8))
	if _, e := s.Force(1, c, msg); e != api.OK {
		t.Errorf("with no leaf left: error %d", e)
	}
}

func TestSigned(t *testing.T) {
	s := treeOf(private+2, 4, 12).signer(t)
	for i, msg := range [][]byte{some(10), nil, some(11), some(10)} {
		if s.Signed(msg) != (i == 3) {
			t.Errorf("message %d is signed: %t", i, s.Signed(msg))
		}
		signed(t, s, digestOf(i), msg)
		if !s.Signed(msg) {
			t.Errorf("message %d is not signed", i)
		}
	}
	if !s.Signed([]byte{}) || !s.Signed(nil) || !s.Signed(some(11)) {
		t.Error("a message is not signed")
	}
	for _, msg := range [][]byte{some(10)[:9], some(10)[1:], append(some(10), 0), {0}, some(12)} {
		if s.Signed(msg) {
			t.Errorf("%x is signed", msg)
		}
	}
	if _, e := s.Sign(digestOf(1), some(12)); e != api.ErrUsed || s.Signed(some(12)) {
		t.Errorf("error %d; signed", e)
	}
}

func TestKnows(t *testing.T) {
	for _, x := range small[:4] {
		s := x.signer(t)
		p, _ := ots.Params(x.ots)
		want := make([][]int, x.leaves()) // from which position on
		holds := func() {
			t.Helper()
			for q := range x.leaves() + 1 {
				for i := -1; i <= p.P; i++ {
					for j := -1; j <= 1<<p.W; j++ {
						known := q < x.leaves() && i >= 0 && i < len(want[q]) && j >= want[q][i] && j < 1<<p.W
						if got := s.Knows(lms.Place{Q: q, I: i, J: j}); got != known {
							t.Fatalf("type %x, leaf %d, chain %d, position %d: %t", x.t, q, i, j, got)
						}
					}
				}
			}
		}
		holds()
		for q := range min(x.leaves(), 3) {
			c, msg := digestOf(int(q)), some(int(q))
			signed(t, s, c, msg)
			want[q] = ots.Digits(x.ots, ots.Mash(ots.Site{ID: x.id, Q: q}, c, msg))
			holds()
		}
	}
}

func TestKnowsOfNoPlace(t *testing.T) {
	s := treeOf(private+1, 4, 13).signer(t)
	signed(t, s, digestOf(1), some(1))
	if !s.Knows(lms.Place{Q: 0, I: 33, J: 255}) || s.Knows(lms.Place{Q: 1, I: 33, J: 255}) {
		t.Error("the chains' ends")
	}
	edges := []int{math.MinInt, math.MinInt32, -256, -1, 256, 257, 1 << 16, 1 << 32, math.MaxInt}
	for _, n := range edges {
		for _, p := range []lms.Place{{I: n, J: 255}, {I: 0, J: n}, {I: n, J: n}, {Q: 2, I: 0, J: 255}, {Q: 1<<32 - 1, I: 0, J: 255}} {
			if s.Knows(p) {
				t.Errorf("%v is known", p)
			}
		}
	}
}

func TestPath(t *testing.T) {
	for _, x := range small {
		s := x.signer(t)
		for q := range min(x.leaves(), 4) {
			if got := s.Path(q); !slices.Equal(got, x.path(q)) {
				t.Errorf("type %x, leaf %d: %d nodes", x.t, q, len(got))
			}
		}
		last := x.leaves() - 1
		if got := s.Path(last); !slices.Equal(got, x.path(last)) {
			t.Errorf("type %x, leaf %d: %d nodes", x.t, last, len(got))
		}
		for _, q := range []uint32{x.leaves(), x.leaves() + 1, 2 * x.leaves(), 1 << 31, 1<<32 - 1} {
			if got := s.Path(q); len(got) != 0 {
				t.Errorf("type %x, leaf %d: %d nodes", x.t, q, len(got))
			}
		}
	}
}

func TestLast(t *testing.T) {
	s := treeOf(private+2, 4, 14).signer(t)
	holds := func(q uint32, msg []byte, c api.Digest) {
		t.Helper()
		if got, gotC := s.Last(q); !bytes.Equal(got, msg) || gotC != c {
			t.Errorf("leaf %d: %x, C %x", q, got, gotC)
		}
	}
	for q := range uint32(4) {
		holds(q, nil, api.Digest{})
		signed(t, s, digestOf(int(q)), some(20*int(q)))
		for used := range q + 1 {
			holds(used, some(20*int(used)), digestOf(int(used)))
		}
	}
	for _, q := range []uint32{4, 5, 8, 1<<32 - 1} {
		holds(q, nil, api.Digest{})
	}
}

func TestSignersAreApart(t *testing.T) {
	x := treeOf(private+1, 4, 15)
	a, b := x.signer(t), x.signer(t)
	signed(t, a, digestOf(1), some(1))
	if b.Left() != 2 || b.Signed(some(1)) || !bytes.Equal(a.Public(), b.Public()) {
		t.Error("one signer's signature is another's")
	}
	for _, y := range []tree{
		{x.t, x.ots, idOf(16), x.seed}, {x.t, x.ots, x.id, digestOf(17)},
		{x.t, 3, x.id, x.seed}, {private + 2, x.ots, x.id, x.seed},
	} {
		if root := y.signer(t).Public()[24:]; bytes.Equal(root, a.Public()[24:]) {
			t.Error("two trees have one root")
		}
	}
}

func TestNoSigner(t *testing.T) {
	for _, s := range []*lms.Signer{nil, {}} {
		if sig, e := s.Sign(digestOf(1), some(1)); e != api.ErrNone || len(sig) != 0 {
			t.Errorf("Sign: error %d, %d bytes", e, len(sig))
		}
		for _, q := range []uint32{0, 1, 1<<32 - 1} {
			if sig, e := s.Force(q, digestOf(1), some(1)); e != api.ErrNone || len(sig) != 0 {
				t.Errorf("Force: error %d, %d bytes", e, len(sig))
			}
			if msg, c := s.Last(q); len(msg) != 0 || c != (api.Digest{}) {
				t.Errorf("Last: %x, %x", msg, c)
			}
			if len(s.Path(q)) != 0 || s.Knows(lms.Place{Q: q}) {
				t.Error("a path, or a place")
			}
		}
		if len(s.Public()) != 0 || s.Left() != 0 || s.Signed(nil) || s.Signed(some(1)) {
			t.Error("no signer is one")
		}
	}
}

func TestSigningNeitherChangesNorKeeps(t *testing.T) {
	x := treeOf(private+1, 4, 18)
	s, store := x.signer(t), some(100)
	sig := signed(t, s, digestOf(1), store[:40])
	other := forced(t, s, 1, digestOf(1), store[:40])
	s.Signed(store[:40])
	if !bytes.Equal(store, some(100)) {
		t.Fatal("a message is changed")
	}
	clear(store)
	msg, _ := s.Last(0)
	if !bytes.Equal(msg, some(100)[:40]) || !s.Signed(some(100)[:40]) || s.Signed(store[:40]) {
		t.Error("a message is kept")
	}
	if !bytes.Equal(sig, x.sign(0, digestOf(1), msg)) || !bytes.Equal(other, x.sign(1, digestOf(1), msg)) {
		t.Error("a signature hangs on its message")
	}
}

func TestResultsAreNewMemory(t *testing.T) {
	x := treeOf(private+2, 4, 19)
	s := x.signer(t)
	sig := signed(t, s, digestOf(1), some(40))
	for range 2 {
		pub, path, own := s.Public(), s.Path(0), forced(t, s, 0, digestOf(1), some(40))
		msg, _ := s.Last(0)
		if !bytes.Equal(pub, x.pub(x.node(1))) || !slices.Equal(path, x.path(0)) || !bytes.Equal(msg, some(40)) || !bytes.Equal(own, sig) {
			t.Fatal("a result shares memory")
		}
		clear(pub[:cap(pub)])
		clear(path[:cap(path)])
		clear(msg[:cap(msg)])
		clear(own[:cap(own)])
	}
	if !s.Signed(some(40)) || s.Left() != 3 {
		t.Error("a result is the signer's own")
	}
}
