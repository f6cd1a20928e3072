package lms_test

import (
	"bytes"
	"encoding/binary"
	"slices"
	"testing"

	"curtilage/api"
	"curtilage/lms"
	"curtilage/ots"
)

func TestHeight(t *testing.T) {
	for n, want := range heights {
		if h, ok := lms.Height(n); !ok || h != want {
			t.Errorf("type %x: %t, %d", n, ok, h)
		}
	}
	for _, n := range noTypes {
		if h, ok := lms.Height(n); ok || h != 0 {
			t.Errorf("type %x: %t, %d", n, ok, h)
		}
	}
}

func TestNode(t *testing.T) {
	for n := range 40 {
		id, a, b := idOf(n), digestOf(n), digestOf(n+1)
		for _, r := range []uint32{0, 1, 2, 3, 255, 256, 0x01020304, 1 << 25, 1<<32 - 1} {
			if got := lms.Node(id, r, a, b); got != nodeOf(id, r, a, b) {
				t.Errorf("node %d is %x", r, got)
			}
			if got := lms.Leaf(id, r, a); got != leafOf(id, r, a) {
				t.Errorf("leaf %d is %x", r, got)
			}
		}
	}
	id, a, b := idOf(1), digestOf(1), digestOf(2)
	if lms.Node(id, 1, a, b) == lms.Node(id, 1, b, a) || lms.Node(id, 1, a, b) == lms.Node(id, 2, a, b) {
		t.Error("two nodes are one")
	}
}

func TestParts(t *testing.T) {
	for kind := range oneSizes {
		for tall, height := range heights {
			one, path := oneOf(kind, height), pathOf(height, 3)
			for _, q := range []uint32{0, 1, 1<<height - 1} {
				gotQ, gotOne, gotT, gotPath, e := lms.Parts(joined(q, one, tall, path))
				if e != api.OK || gotQ != q || gotT != tall {
					t.Errorf("types %x and %d: error %d, leaf %d, type %x", tall, kind, e, gotQ, gotT)
				}
				if !bytes.Equal(gotOne, one) || !slices.Equal(gotPath, path) {
					t.Errorf("types %x and %d: %d bytes and %d nodes", tall, kind, len(gotOne), len(gotPath))
				}
			}
		}
	}
}

// rejected holds that all calls reject sig with the error.
func rejected(t *testing.T, sig []byte, want api.Errno) {
	t.Helper()
	q, one, tall, path, e := lms.Parts(sig)
	if e != want || q != 0 || len(one) != 0 || tall != 0 || len(path) != 0 {
		t.Errorf("%d bytes: error %d, leaf %d, %d bytes, type %x, %d nodes", len(sig), e, q, len(one), tall, len(path))
	}
	pub := treeOf(5, 4, 1).pub(digestOf(1))
	if root, e := lms.Root(pub, some(5), sig); e != want || root != (api.Digest{}) {
		t.Errorf("%d bytes: error %d, leads to %x", len(sig), e, root)
	}
	if e := lms.Verify(pub, some(5), sig); e != want {
		t.Errorf("%d bytes: verified with the error %d", len(sig), e)
	}
}

func TestSignaturesThatEndEarly(t *testing.T) {
	for kind, size := range oneSizes {
		sig := joined(3, oneOf(kind, 1), 5, pathOf(5, 1))
		for _, n := range []int{0, 1, 3, 4, 5, 7, 8, 9, 40, size, size + 3, size + 4, size + 7, size + 8, size + 9, len(sig) - 32, len(sig) - 1} {
			rejected(t, sig[:n], api.ErrForm)
		}
	}
	rejected(t, nil, api.ErrForm)
}

func TestSignaturesThatEndLate(t *testing.T) {
	for kind := range oneSizes {
		for tall, height := range heights {
			for _, n := range []int{1, 2, 31, 32, 64, 1000} {
				rejected(t, append(joined(1, oneOf(kind, 1), tall, pathOf(height, 1)), make([]byte, n)...), api.ErrForm)
			}
		}
	}
}

func TestEveryLength(t *testing.T) {
	whole := joined(31, oneOf(4, 1), 5, pathOf(5, 1))
	long := append(slices.Clone(whole), some(100)...)
	for n := range long {
		if n == len(whole) {
			if _, _, _, _, e := lms.Parts(long[:n]); e != api.OK {
				t.Errorf("the whole signature: error %d", e)
			}
			continue
		}
		rejected(t, long[:n], api.ErrForm)
	}
}

func TestSignaturesWithoutAType(t *testing.T) {
	for _, n := range noOnes {
		for _, size := range []int{8, 9, 1132, 1292, 9000} {
			sig := some(size)
			binary.BigEndian.PutUint32(sig[4:], n)
			rejected(t, sig, api.ErrType)
		}
		var begin [8]byte
		binary.BigEndian.PutUint32(begin[4:], n)
		for size := range begin {
			rejected(t, begin[:size], api.ErrForm)
		}
	}
	for kind, size := range oneSizes {
		for _, n := range noTypes {
			sig := joined(1<<32-1, oneOf(kind, 1), n, pathOf(5, 1))
			rejected(t, sig, api.ErrType)
			rejected(t, sig[:size+8], api.ErrType)
			rejected(t, sig[:size+9], api.ErrType)
			rejected(t, sig[:size+7], api.ErrForm)
			rejected(t, append(sig, 0), api.ErrType)
		}
	}
}

func TestLeavesThatThereAreNot(t *testing.T) {
	for tall, height := range heights {
		for _, q := range []uint32{1 << height, 1<<height + 1, 2 << height, 1 << 31, 1<<32 - 1} {
			rejected(t, joined(q, oneOf(3, 1), tall, pathOf(height, 1)), api.ErrForm)
		}
	}
}

func TestRootOfWhatNobodySigned(t *testing.T) {
	for kind := range oneSizes {
		for tall, height := range heights {
			x := treeOf(tall, kind, height)
			one, path, msg := oneOf(kind, 2), pathOf(height, height), some(height)
			for _, q := range []uint32{0, 1, 1 << height / 3, 1<<height - 2, 1<<height - 1} {
				want := x.claimed(q, one, path, msg)
				sig := joined(q, one, tall, path)
				if root, e := lms.Root(x.pub(digestOf(1)), msg, sig); e != api.OK || root != want {
					t.Errorf("types %x and %d, leaf %d: error %d, %x", tall, kind, q, e, root)
				}
				if e := lms.Verify(x.pub(want), msg, sig); e != api.OK {
					t.Errorf("types %x and %d, leaf %d: error %d", tall, kind, q, e)
				}
				want[31] ^= 1
				if e := lms.Verify(x.pub(want), msg, sig); e != api.ErrSign {
					t.Errorf("types %x and %d, leaf %d, another root: error %d", tall, kind, q, e)
				}
			}
		}
	}
}

// unverified holds that Root and Verify return the error.
func unverified(t *testing.T, pub, msg, sig []byte, want api.Errno) {
	t.Helper()
	root, e := lms.Root(pub, msg, sig)
	if e != want || root != (api.Digest{}) {
		t.Errorf("a key of %d bytes: error %d, leads to %x", len(pub), e, root)
	}
	if e := lms.Verify(pub, msg, sig); e != want {
		t.Errorf("a key of %d bytes: verified with the error %d", len(pub), e)
	}
}

func TestKeysOfAnotherLength(t *testing.T) {
	x := treeOf(private+1, 4, 1)
	sig := x.sign(1, digestOf(1), some(9))
	long := append(x.pub(x.node(1)), some(100)...)
	for n := range long {
		if n != 56 {
			unverified(t, long[:n], some(9), sig, api.ErrForm)
			unverified(t, make([]byte, n), some(9), nil, api.ErrForm)
		}
	}
	unverified(t, nil, nil, nil, api.ErrForm)
}

func TestErrorsOfRootInTheirOrder(t *testing.T) {
	x := treeOf(5, 4, 1)
	good := joined(1, oneOf(4, 1), 5, pathOf(5, 1))
	sigs := [][]byte{
		good, good[:100], nil,
		joined(32, oneOf(4, 1), 5, pathOf(5, 1)),
		joined(1, []byte{0, 0, 0, 9}, 5, nil),
	}
	for _, n := range noTypes {
		for _, sig := range sigs {
			unverified(t, tree{t: n, ots: 4}.pub(digestOf(1)), nil, sig, api.ErrType)
			unverified(t, tree{t: n, ots: 4}.pub(digestOf(1))[:55], nil, sig, api.ErrForm)
		}
	}
	for _, n := range noOnes {
		for _, sig := range sigs {
			unverified(t, tree{t: 5, ots: n}.pub(digestOf(1)), nil, sig, api.ErrType)
		}
	}
	for _, other := range []struct{ t, ots uint32 }{{5, 3}, {6, 4}, {private + 1, 4}, {9, 1}} {
		pub := tree{other.t, other.ots, x.id, x.seed}.pub(digestOf(1))
		unverified(t, pub, nil, good, api.ErrType)
		unverified(t, pub, nil, good[:len(good)-1], api.ErrForm)
		unverified(t, pub, nil, joined(32, oneOf(4, 1), 5, pathOf(5, 1)), api.ErrForm)
	}
}

func TestVerifyTellsOtherMessages(t *testing.T) {
	x := treeOf(private+2, 3, 5)
	pub, msg := x.pub(x.node(1)), some(60)
	for q := range x.leaves() {
		sig := x.sign(q, digestOf(3), msg)
		if e := lms.Verify(pub, msg, sig); e != api.OK {
			t.Errorf("leaf %d: error %d", q, e)
		}
		for _, other := range [][]byte{nil, msg[:59], msg[1:], append(slices.Clone(msg), 0), some(61)} {
			if e := lms.Verify(pub, other, sig); e != api.ErrSign {
				t.Errorf("leaf %d, a message of %d bytes: error %d", q, len(other), e)
			}
		}
	}
}

func TestVerifyTellsOtherSignatures(t *testing.T) {
	x := treeOf(private+3, 3, 6)
	pub, msg := x.pub(x.node(1)), some(33)
	sig := x.sign(2, digestOf(4), msg)
	kinds := []int{4, 5, 6, 7, 2184, 2185, 2186, 2187}
	for i := range sig {
		bad := slices.Clone(sig)
		bad[i] ^= 0x20
		want := api.ErrSign
		switch {
		case i < 4:
			want = api.ErrForm
		case slices.Contains(kinds, i):
			want = api.ErrType
		}
		if e := lms.Verify(pub, msg, bad); e != want {
			t.Errorf("byte %d: error %d", i, e)
		}
	}
	for q := range x.leaves() {
		binary.BigEndian.PutUint32(sig, q)
		if e := lms.Verify(pub, msg, sig); (e == api.OK) != (q == 2) {
			t.Errorf("as leaf %d's: error %d", q, e)
		}
	}
}

func TestVerifyTellsOtherKeys(t *testing.T) {
	x := treeOf(private+2, 4, 7)
	pub, msg := x.pub(x.node(1)), some(33)
	sig := x.sign(3, digestOf(4), msg)
	for i := range pub {
		bad := slices.Clone(pub)
		bad[i] ^= 0x20
		want := api.ErrSign
		if i < 8 {
			want = api.ErrType
		}
		if e := lms.Verify(bad, msg, sig); e != want {
			t.Errorf("byte %d: error %d", i, e)
		}
	}
}

func TestReadingNeitherChangesNorKeeps(t *testing.T) {
	x := treeOf(private+2, 4, 8)
	store := slices.Concat(x.pub(x.node(1)), some(20), x.sign(3, digestOf(4), some(20)), some(200))
	kept := slices.Clone(store)
	pub, msg, sig := store[:56], store[56:76], store[76:len(store)-200]
	if e := lms.Verify(pub, msg, sig); e != api.OK {
		t.Fatalf("error %d", e)
	}
	lms.Root(pub, msg, sig)
	_, one, _, path, _ := lms.Parts(sig)
	if !bytes.Equal(store, kept) {
		t.Fatal("an argument is changed")
	}
	clear(store)
	if !bytes.Equal(one, kept[76+4:][:1124]) || !slices.Equal(path, x.path(3)) {
		t.Error("a signature is kept")
	}
	_, other, _, _, _ := lms.Parts(kept[76 : len(kept)-200])
	clear(one[:cap(one)])
	if !slices.Equal(path, x.path(3)) || !bytes.Equal(other, kept[76+4:][:1124]) {
		t.Error("two results share memory")
	}
	clear(path[:cap(path)])
	if !bytes.Equal(other, kept[76+4:][:1124]) {
		t.Error("two results share memory")
	}
}

func TestOneTimeSignaturesAreWhole(t *testing.T) {
	x := treeOf(private+1, 2, 9)
	_, one, _, _, _ := lms.Parts(x.sign(1, digestOf(1), some(3)))
	at := ots.Site{ID: x.id, Q: 1}
	want, _ := ots.Public(2, at, x.seed)
	if k, e := ots.Claim(at, one, some(3)); e != api.OK || k != want {
		t.Errorf("error %d, claims %x", e, k)
	}
}
