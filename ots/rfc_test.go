package ots_test

import (
	"bytes"
	"testing"

	"curtilage/api"
	"curtilage/ots"
)

// tree is a private key of the RFC's test case 2, with the root that it prints
// and one signature: its number, its message, its C and its first value.
type tree struct {
	t              uint32
	height         int
	id, seed, root string
	q              uint32
	msg            string
	c, first       string
}

const rfcMessage = "The enumeration in the Constitution, of certain rights, " +
	"shall not be construed to deny or disparage others retained by the people.\n"

// lower is the public key of the tree below, which the one above signs.
const lower = "\x00\x00\x00\x05\x00\x00\x00\x04" +
	"\x21\x5f\x83\xb7\xcc\xb9\xac\xbc\xd0\x8d\xb9\x7b\x0d\x04\xdc\x2b" +
	"\xa1\xcd\x03\x58\x33\xe0\xe9\x00\x59\x60\x3f\x26\xe0\x7a\xd2\xaa" +
	"\xd1\x52\x33\x8e\x7a\x5e\x59\x84\xbc\xd5\xf7\xbb\x4e\xba\x40\xb7"

var trees = []tree{
	{
		t: 3, height: 10,
		id:    "d08fabd4a2091ff0a8cb4ed834e74534",
		seed:  "558b8966c48ae9cb898b423c83443aae014a72f1b1ab5cc85cf1d892903b5439",
		root:  "32a58885cd9ba0431235466bff9651c6c92124404d45fa53cf161c28f1ad5a8e",
		q:     3,
		msg:   lower,
		c:     "3d46bee8660f8f215d3f96408a7a64cf1c4da02b63a55f62c666ef5707a914ce",
		first: "0674e8cb7a55f0c48d484f31f3aa4af9719a74f22cf823b94431d01c926e2a76",
	},
	{
		t: 4, height: 5,
		id:    "215f83b7ccb9acbcd08db97b0d04dc2b",
		seed:  "a1c4696e2608035a886100d05cd99945eb3370731884a8235e2fb3d4d71f2547",
		root:  "a1cd035833e0e90059603f26e07ad2aad152338e7a5e5984bcd5f7bb4eba40b7",
		q:     4,
		msg:   rfcMessage,
		c:     "0eb1ed54a2460d512388cad533138d240534e97b1e82d33bd927d201dfc24ebb",
		first: "11b3649023696f85150b189e50c00e98850ac343a77b3638319c347d7310269d",
	},
}

// node returns the value of node r of the tree whose leaves are Public's.
func (x tree) node(t *testing.T, id [16]byte, seed api.Digest, r uint32) api.Digest {
	t.Helper()
	at := ots.Site{ID: id, Q: r}
	if leaves := uint32(1) << x.height; r >= leaves {
		k, e := ots.Public(x.t, ots.Site{ID: id, Q: r - leaves}, seed)
		if e != api.OK {
			t.Fatalf("type %d: error %d", x.t, e)
		}
		return hashed(begin(at, 0x8282), k[:])
	}
	left, right := x.node(t, id, seed, 2*r), x.node(t, id, seed, 2*r+1)
	return hashed(begin(at, 0x8383), left[:], right[:])
}

func TestPublicKeysMakeTheRoots(t *testing.T) {
	for _, x := range trees {
		id, seed := [16]byte(bytesOf(t, x.id)), api.Digest(bytesOf(t, x.seed))
		if got := x.node(t, id, seed, 1); !bytes.Equal(got[:], bytesOf(t, x.root)) {
			t.Errorf("type %d: the root is %x", x.t, got)
		}
	}
}

func TestSignaturesBeginAsTheRFCPrintsThem(t *testing.T) {
	for _, x := range trees {
		at := ots.Site{ID: [16]byte(bytesOf(t, x.id)), Q: x.q}
		seed, c := api.Digest(bytesOf(t, x.seed)), api.Digest(bytesOf(t, x.c))
		sig, e := ots.Sign(x.t, at, seed, c, []byte(x.msg))
		want := append([]byte{0, 0, 0, byte(x.t)}, c[:]...)
		want = append(want, bytesOf(t, x.first)...)
		if e != api.OK || !bytes.HasPrefix(sig, want) {
			t.Errorf("type %d: error %d, %x", x.t, e, sig[:min(len(sig), len(want))])
		}
		k, _ := ots.Public(x.t, at, seed)
		if got, e := ots.Claim(at, sig, []byte(x.msg)); e != api.OK || got != k {
			t.Errorf("type %d: error %d, claims %x", x.t, e, got)
		}
	}
}
