package mac_test

import (
	"bytes"
	"crypto/hmac"
	"crypto/sha256"
	"encoding/binary"
	"encoding/hex"
	"slices"
	"strings"
	"testing"

	"curtilage/api"
	"curtilage/mac"
)

// some returns n bytes without a short period.
func some(n int) []byte {
	p := make([]byte, n)
	x := uint32(n)*2654435761 + 1
	for i := range p {
		x = x*1664525 + 1013904223
		p[i] = byte(x >> 24)
	}
	return p
}

// standard is the library's MAC, to hold ours against.
func standard(key, p []byte) api.Digest {
	h := hmac.New(sha256.New, key)
	h.Write(p)
	return api.Digest(h.Sum(nil))
}

func TestSumOfKnownMessages(t *testing.T) {
	for _, c := range []struct{ key, msg, want string }{
		{"key", "The quick brown fox jumps over the lazy dog",
			"f7bc83f430538424b13298e6aa6fb143ef4d59a14946175997479dbc2d1a3cd8"},
		{"", "", "b613679a0814d9ec772f95d778c35fc5ff1697c493715653c6c712144292c5ad"},
		// RFC 4231, cases 1 to 4, 6 and 7.
		{strings.Repeat("\x0b", 20), "Hi There",
			"b0344c61d8db38535ca8afceaf0bf12b881dc200c9833da726e9376c2e32cff7"},
		{"Jefe", "what do ya want for nothing?",
			"5bdcc146bf60754e6a042426089575c75a003f089d2739839dec58b964ec3843"},
		{strings.Repeat("\xaa", 20), strings.Repeat("\xdd", 50),
			"773ea91e36800e46854db8ebd09181a72959098b3ef8c122d9635514ced565fe"},
		{"\x01\x02\x03\x04\x05\x06\x07\x08\x09\x0a\x0b\x0c\x0d\x0e\x0f\x10\x11\x12\x13\x14\x15\x16\x17\x18\x19",
			strings.Repeat("\xcd", 50),
			"82558a389a443c0ea4cc819899f2083a85f0faa3e578f8077a2e3ff46729665b"},
		{strings.Repeat("\xaa", 131), "Test Using Larger Than Block-Size Key - Hash Key First",
			"60e431591ee0b67f0d8a26aacbf5b77f8e0bc6213728c5140546040f0ee37f54"},
		{strings.Repeat("\xaa", 131), "This is a test using a larger than block-size key and a larger than block-size data. The key needs to be hashed before being used by the HMAC algorithm.",
			"9b09ffa71b942fcb27635fbcd5b0e944bfdc63644f0713938a7f51535c3a35e2"},
	} {
		d := mac.Sum([]byte(c.key), []byte(c.msg))
		if hex.EncodeToString(d[:]) != c.want {
			t.Errorf("of %q by %q: %x", c.msg, c.key, d)
		}
	}
}

func TestSumByEveryLengthOfKey(t *testing.T) {
	msg := some(100)
	for n := range 200 {
		key := some(n)
		if mac.Sum(key, msg) != standard(key, msg) || mac.New(key).Feed(msg).Sum() != standard(key, msg) {
			t.Errorf("a key of %d bytes", n)
		}
	}
}

func TestSumOfEveryLength(t *testing.T) {
	key := some(20)
	for n := range 200 {
		p := some(n)
		if mac.Sum(key, p) != standard(key, p) {
			t.Errorf("a message of %d bytes", n)
		}
	}
}

func TestSumJoinsItsParts(t *testing.T) {
	key, p := some(40), some(150)
	want := standard(key, p)
	for i := range p {
		if mac.Sum(key, p[:i], p[i:]) != want {
			t.Errorf("split at %d", i)
		}
	}
	if mac.Sum(key, nil, p[:64], []byte{}, p[64:], nil) != want {
		t.Error("empty parts count")
	}
	empty := standard(nil, nil)
	if mac.Sum(nil) != empty || mac.Sum([]byte{}, nil) != empty || mac.Sum(nil, []byte{}, nil) != empty {
		t.Error("nil and empty slices differ")
	}
}

func TestStatesAreEqualHoweverSplit(t *testing.T) {
	key, p := some(32), some(150)
	whole := mac.New(key).Feed(p)
	for i := range len(p) + 1 {
		if mac.New(key).Feed(p[:i]).Feed(p[i:]) != whole {
			t.Errorf("split at %d", i)
		}
	}
	if whole.Feed(nil) != whole || whole.Feed([]byte{}) != whole || mac.New(nil) != mac.New([]byte{}) {
		t.Error("feeding nothing changes a state")
	}
	if mac.New(key) == mac.New(some(31)) || whole == mac.New(some(31)).Feed(p) {
		t.Error("two keys have one state")
	}
}

func TestSumLeavesTheStateToBeFed(t *testing.T) {
	key, p := some(70), some(200)
	m := mac.New(key)
	for n := range p {
		before := m
		if m.Sum() != standard(key, p[:n]) || m.Sum() != standard(key, p[:n]) {
			t.Fatalf("the MAC after %d bytes, fed between sums", n)
		}
		if m != before {
			t.Fatalf("Sum changes a state of %d bytes", n)
		}
		m = m.Feed(p[n : n+1])
	}
}

func TestMacsAreValues(t *testing.T) {
	key, p := some(32), some(100)
	m := mac.New(key).Feed(p[:70])
	kept := m
	left, right := m.Feed(p[70:]), m.Feed([]byte("else"))
	if m != kept || m.Sum() != standard(key, p[:70]) {
		t.Error("feeding a state changes it")
	}
	if left.Sum() != standard(key, p) || right.Sum() != standard(key, append(some(100)[:70], "else"...)) {
		t.Error("two that go on from one state disturb each other")
	}
}

func TestArgumentsAreNeitherChangedNorKept(t *testing.T) {
	for _, n := range []int{10, 64, 65} {
		store := some(400)
		kept := slices.Clone(store)
		key, p := store[:n], store[100:300]
		m := mac.New(key).Feed(p)
		sum, derived := mac.Sum(key, p), mac.Derive(key, "label", p)
		if !bytes.Equal(store, kept) {
			t.Fatal("an argument is changed")
		}
		clear(store)
		key, p = kept[:n], kept[100:300]
		if m.Sum() != standard(key, p) || sum != standard(key, p) || derived != mac.Derive(key, "label", p) {
			t.Error("an argument is kept")
		}
	}
}

// listed is what Derive feeds: numbers in four bytes, and what they count.
func listed(label string, parts ...[]byte) []byte {
	p := binary.BigEndian.AppendUint32(nil, uint32(len(label)))
	p = append(p, label...)
	p = binary.BigEndian.AppendUint32(p, uint32(len(parts)))
	for _, x := range parts {
		p = binary.BigEndian.AppendUint32(p, uint32(len(x)))
		p = append(p, x...)
	}
	return p
}

func TestDeriveOfBytesWrittenOut(t *testing.T) {
	key := []byte("key")
	for _, c := range []struct {
		got api.Digest
		fed string
	}{
		{mac.Derive(key, ""), "\x00\x00\x00\x00\x00\x00\x00\x00"},
		{mac.Derive(key, "x"), "\x00\x00\x00\x01x\x00\x00\x00\x00"},
		{mac.Derive(key, "", nil), "\x00\x00\x00\x00\x00\x00\x00\x01\x00\x00\x00\x00"},
		{mac.Derive(key, "ab", []byte("cde"), nil, []byte("f")),
			"\x00\x00\x00\x02ab\x00\x00\x00\x03\x00\x00\x00\x03cde\x00\x00\x00\x00\x00\x00\x00\x01f"},
		{mac.Derive(key, "\xffé\x00"), "\x00\x00\x00\x04\xff\xc3\xa9\x00\x00\x00\x00\x00"},
	} {
		if c.got != standard(key, []byte(c.fed)) {
			t.Errorf("not the MAC of %q", c.fed)
		}
	}
}

func TestDeriveOfLongParts(t *testing.T) {
	for _, n := range []int{0, 1, 63, 64, 255, 256, 65535, 65536, 1<<24 + 3} {
		key, label, p := some(70), strings.Repeat("l", n), some(n)
		if mac.Derive(key, label, p, []byte("end")) != standard(key, listed(label, p, []byte("end"))) {
			t.Errorf("a label and a part of %d bytes", n)
		}
	}
	many := make([][]byte, 65537)
	if mac.Derive(nil, "many", many...) != standard(nil, listed("many", many...)) {
		t.Error("many parts")
	}
}

func TestDeriveTellsItsArgumentsApart(t *testing.T) {
	key := some(32)
	seen := map[api.Digest]int{}
	for i, d := range []api.Digest{
		mac.Derive(key, "ab"),
		mac.Derive(key, "a", []byte("b")),
		mac.Derive(key, "", []byte("ab")),
		mac.Derive(key, "", []byte("a"), []byte("b")),
		mac.Derive(key, "", []byte("ab"), nil),
		mac.Derive(key, "", nil, []byte("ab")),
		mac.Derive(some(31), "ab"),
		mac.Sum(key, []byte("ab")),
	} {
		if j, ok := seen[d]; ok {
			t.Errorf("%d and %d are one key", j, i)
		}
		seen[d] = i
	}
	if mac.Derive(key, "", nil) != mac.Derive(key, "", []byte{}) || mac.Derive(nil, "") != mac.Derive([]byte{}, "") {
		t.Error("nil and empty slices differ")
	}
}

func TestEqual(t *testing.T) {
	a := mac.Sum(some(3), some(4))
	if !mac.Equal(a, a) || !mac.Equal(api.Digest{}, api.Digest{}) {
		t.Error("a digest does not equal itself")
	}
	for i := range a {
		for bit := range 8 {
			b := a
			b[i] ^= 1 << bit
			if mac.Equal(a, b) || mac.Equal(b, a) {
				t.Errorf("bit %d of byte %d does not count", bit, i)
			}
		}
	}
	b := a
	b[0] ^= 0x55
	b[31] ^= 0x55
	if mac.Equal(a, b) {
		t.Error("two equal differences cancel")
	}
}
