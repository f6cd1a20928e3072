package aes_test

import (
	"bytes"
	stdaes "crypto/aes"
	"encoding/binary"
	"encoding/hex"
	"slices"
	"strings"
	"testing"

	"curtilage/aes"
	"curtilage/api"
)

// some returns n bytes without a short period.
func some(n int) []byte {
	p := make([]byte, n)
	x := uint32(n)*2654435761 + 1
	for i := range p {
		x = x*1664525 + 1013904223
		p[i] = byte(x >> 24)
	}
	return p
}

// bytesOf reads hexadecimal digits, with white space between them.
func bytesOf(t *testing.T, text string) []byte {
	t.Helper()
	p, err := hex.DecodeString(strings.Join(strings.Fields(text), ""))
	if err != nil {
		t.Fatal(err)
	}
	return p
}

// made returns the key of these bytes.
func made(t *testing.T, key []byte) aes.Key {
	t.Helper()
	k, e := aes.New(key)
	if e != api.OK {
		t.Fatalf("a key of %d bytes: error %d", len(key), e)
	}
	return k
}

func TestMulOfTheStandardsProducts(t *testing.T) {
	for _, c := range [][3]byte{
		{0x57, 0x83, 0xc1}, {0x57, 0x13, 0xfe}, // section 4.2
		{0x57, 0x02, 0xae}, {0x57, 0x04, 0x47}, {0x57, 0x08, 0x8e}, {0x57, 0x10, 0x07},
		{0x80, 0x02, 0x1b}, {0x53, 0xca, 0x01}, {0x02, 0x8d, 0x01}, {0xff, 0xff, 0x13},
		{0, 0, 0}, {0, 0xff, 0}, {1, 0xff, 0xff},
	} {
		if aes.Mul(c[0], c[1]) != c[2] || aes.Mul(c[1], c[0]) != c[2] {
			t.Errorf("%02x times %02x is %02x", c[0], c[1], aes.Mul(c[0], c[1]))
		}
	}
}

// product multiplies two polynomials and then divides by the standard's.
func product(a, b byte) byte {
	const polynomial = 0x11b
	whole := 0
	for i := range 8 {
		if b>>i&1 != 0 {
			whole ^= int(a) << i
		}
	}
	for i := 14; i >= 8; i-- {
		if whole>>i&1 != 0 {
			whole ^= polynomial << (i - 8)
		}
	}
	return byte(whole)
}

func TestMulOfAllBytes(t *testing.T) {
	for a := range 256 {
		for b := range 256 {
			if got := aes.Mul(byte(a), byte(b)); got != product(byte(a), byte(b)) {
				t.Fatalf("%02x times %02x is %02x", a, b, got)
			}
		}
	}
}

// boxes is the substitution as the standard prints it.
const boxes = `
63 7c 77 7b f2 6b 6f c5 30 01 67 2b fe d7 ab 76 ca 82 c9 7d fa 59 47 f0 ad d4 a2 af 9c a4 72 c0
b7 fd 93 26 36 3f f7 cc 34 a5 e5 f1 71 d8 31 15 04 c7 23 c3 18 96 05 9a 07 12 80 e2 eb 27 b2 75
09 83 2c 1a 1b 6e 5a a0 52 3b d6 b3 29 e3 2f 84 53 d1 00 ed 20 fc b1 5b 6a cb be 39 4a 4c 58 cf
d0 ef aa fb 43 4d 33 85 45 f9 02 7f 50 3c 9f a8 51 a3 40 8f 92 9d 38 f5 bc b6 da 21 10 ff f3 d2
cd 0c 13 ec 5f 97 44 17 c4 a7 7e 3d 64 5d 19 73 60 81 4f dc 22 2a 90 88 46 ee b8 14 de 5e 0b db
e0 32 3a 0a 49 06 24 5c c2 d3 ac 62 91 95 e4 79 e7 c8 37 6d 8d d5 4e a9 6c 56 f4 ea 65 7a ae 08
ba 78 25 2e 1c a6 b4 c6 e8 dd 74 1f 4b bd 8b 8a 70 3e b5 66 48 03 f6 0e 61 35 57 b9 86 c1 1d 9e
e1 f8 98 11 69 d9 8e 94 9b 1e 87 e9 ce 55 28 df 8c a1 89 0d bf e6 42 68 41 99 2d 0f b0 54 bb 16
`

func TestBoxAndInverseOfAllBytes(t *testing.T) {
	table := bytesOf(t, boxes)
	if len(table) != 256 {
		t.Fatalf("%d bytes are listed", len(table))
	}
	for i, b := range table {
		if got := aes.Box(byte(i)); got != b {
			t.Errorf("the box of %02x is %02x", i, got)
		}
		if got := aes.Inverse(b); got != byte(i) {
			t.Errorf("the inverse of %02x is %02x", b, got)
		}
	}
}

func TestNewTakesKeysOfTwoLengthsOnly(t *testing.T) {
	for n := range 300 {
		k, e := aes.New(some(n))
		switch {
		case n == 16 || n == 32:
			if e != api.OK || k == (aes.Key{}) {
				t.Errorf("%d bytes: error %d", n, e)
			}
		case e != api.ErrArg || k != (aes.Key{}):
			t.Errorf("%d bytes: error %d, %d rounds", n, e, k.Rounds())
		}
	}
	if k, e := aes.New(nil); e != api.ErrArg || k != (aes.Key{}) {
		t.Errorf("nil: error %d", e)
	}
}

func TestKeysAreEqualWhenTheirBytesAre(t *testing.T) {
	for _, n := range []int{16, 32} {
		p := some(n)
		if made(t, p) != made(t, slices.Clone(p)) {
			t.Errorf("two keys of the same %d bytes differ", n)
		}
		for i := range p {
			q := slices.Clone(p)
			q[i] ^= 1
			if made(t, p) == made(t, q) {
				t.Errorf("byte %d of %d does not count", i, n)
			}
		}
	}
}

// schedules are the expansions in the standard's appendix A.
var schedules = []struct {
	key, words string
	rounds     int
}{
	{"2b7e151628aed2a6abf7158809cf4f3c", `
		2b7e1516 28aed2a6 abf71588 09cf4f3c a0fafe17 88542cb1 23a33939 2a6c7605
		f2c295f2 7a96b943 5935807a 7359f67f 3d80477d 4716fe3e 1e237e44 6d7a883b
		ef44a541 a8525b7f b671253b db0bad00 d4d1c6f8 7c839d87 caf2b8bc 11f915bc
		6d88a37a 110b3efd dbf98641 ca0093fd 4e54f70e 5f5fc9f3 84a64fb2 4ea6dc4f
		ead27321 b58dbad2 312bf560 7f8d292f ac7766f3 19fadc21 28d12941 575c006e
		d014f9a8 c9ee2589 e13f0cc8 b6630ca6`, 10},
	{"603deb1015ca71be2b73aef0857d77811f352c073b6108d72d9810a30914dff4", `
		603deb10 15ca71be 2b73aef0 857d7781 1f352c07 3b6108d7 2d9810a3 0914dff4
		9ba35411 8e6925af a51a8b5f 2067fcde a8b09c1a 93d194cd be49846e b75d5b9a
		d59aecb8 5bf3c917 fee94248 de8ebe96 b5a9328a 2678a647 98312229 2f6c79b3
		812c81ad dadf48ba 24360af2 fab8b464 98c5bfc9 bebd198e 268c3ba7 09e04214
		68007bac b2df3316 96e939e4 6c518d80 c814e204 76a9fb8a 5025c02d 59c58239
		de136967 6ccc5a71 fa256395 9674ee15 5886ca5d 2e2f31d7 7e0af1fa 27cf73c3
		749c47ab 18501dda e2757e4f 7401905a cafaaae3 e4d59b34 9adf6ace bd10190d
		fe4890d1 e6188d0b 046df344 706c631e`, 14},
}

func TestRoundsAndWordsOfTheStandardsKeys(t *testing.T) {
	for _, c := range schedules {
		k := made(t, bytesOf(t, c.key))
		if k.Rounds() != c.rounds {
			t.Errorf("%d rounds of the key %s", k.Rounds(), c.key)
		}
		var p []byte
		for _, w := range k.Words() {
			p = binary.BigEndian.AppendUint32(p, w)
		}
		if !bytes.Equal(p, bytesOf(t, c.words)) || len(k.Words()) != 4*c.rounds+4 {
			t.Errorf("the key %s has the schedule %x", c.key, p)
		}
	}
}

func TestWordsAreNewMemory(t *testing.T) {
	for _, n := range []int{16, 32} {
		k := made(t, some(n))
		kept := k.Words()
		words := k.Words()
		words = words[:cap(words)]
		for i := range words {
			words[i] = 0xffffffff
		}
		if !slices.Equal(k.Words(), kept) || k != made(t, some(n)) {
			t.Errorf("the schedule of %d bytes is handed out itself", n)
		}
	}
}

func TestBlocksOfTheStandard(t *testing.T) {
	for _, c := range []struct{ key, plain, cipher string }{
		{"2b7e151628aed2a6abf7158809cf4f3c", // appendix B
			"3243f6a8885a308d313198a2e0370734", "3925841d02dc09fbdc118597196a0b32"},
		{"000102030405060708090a0b0c0d0e0f", // the appendix of examples
			"00112233445566778899aabbccddeeff", "69c4e0d86a7b0430d8cdb78070b4c55a"},
		{"000102030405060708090a0b0c0d0e0f101112131415161718191a1b1c1d1e1f",
			"00112233445566778899aabbccddeeff", "8ea2b7ca516745bfeafc49904b496089"},
	} {
		k := made(t, bytesOf(t, c.key))
		plain, cipher := api.Block(bytesOf(t, c.plain)), api.Block(bytesOf(t, c.cipher))
		if got := k.Encrypt(plain); got != cipher {
			t.Errorf("by %s: %x", c.key, got)
		}
		if got := k.Decrypt(cipher); got != plain {
			t.Errorf("back by %s: %x", c.key, got)
		}
	}
}

func TestBlocksAgreeWithTheLibrary(t *testing.T) {
	for _, n := range []int{16, 32} {
		for i := range 200 {
			key, b := some(n + i)[:n], api.Block(some(16 + 2*i)[:16])
			c, err := stdaes.NewCipher(key)
			if err != nil {
				t.Fatal(err)
			}
			k := made(t, key)
			var want, back api.Block
			c.Encrypt(want[:], b[:])
			c.Decrypt(back[:], b[:])
			if k.Encrypt(b) != want || k.Decrypt(b) != back {
				t.Fatalf("by %x of %x: %x, back: %x", key, b, k.Encrypt(b), k.Decrypt(b))
			}
			if k.Decrypt(want) != b || k.Encrypt(back) != b {
				t.Fatalf("by %x of %x: not there and back", key, b)
			}
		}
	}
}

func TestKeyThatNewDidNotCreate(t *testing.T) {
	var k aes.Key
	if k.Rounds() != 0 || len(k.Words()) != 0 {
		t.Errorf("%d rounds, the words %x", k.Rounds(), k.Words())
	}
	for _, b := range []api.Block{{}, {1, 2, 3}, api.Block(some(16))} {
		if k.Encrypt(b) != b || k.Decrypt(b) != b {
			t.Errorf("of %x: %x, back: %x", b, k.Encrypt(b), k.Decrypt(b))
		}
	}
}

func TestArgumentsAreNeitherChangedNorKept(t *testing.T) {
	for _, n := range []int{16, 32} {
		store := some(100)
		kept := slices.Clone(store)
		k := made(t, store[:n])
		b := api.Block(some(16))
		k.Encrypt(b)
		k.Decrypt(b)
		if !bytes.Equal(store, kept) || b != api.Block(some(16)) {
			t.Fatal("an argument is changed")
		}
		clear(store)
		if k != made(t, kept[:n]) || k.Encrypt(b) != made(t, kept[:n]).Encrypt(b) {
			t.Error("the key's bytes are kept")
		}
	}
}

func TestXor(t *testing.T) {
	a, b, c := api.Block(some(16)), api.Block(some(17)[:16]), api.Block(some(18)[:16])
	if aes.Xor() != (api.Block{}) {
		t.Error("of no blocks")
	}
	if aes.Xor(a) != a || aes.Xor(a, a) != (api.Block{}) || aes.Xor(a, api.Block{}) != a {
		t.Error("of a block and itself")
	}
	var want api.Block
	for i := range want {
		want[i] = a[i] ^ b[i] ^ c[i]
	}
	if aes.Xor(a, b, c) != want || aes.Xor(c, a, b) != want || aes.Xor(a, b, a, c, a) != want {
		t.Errorf("of three blocks: %x", aes.Xor(a, b, c))
	}
	list := []api.Block{a, b, c}
	aes.Xor(list...)
	if !slices.Equal(list, []api.Block{a, b, c}) {
		t.Error("the blocks are changed")
	}
}

func BenchmarkEncrypt(b *testing.B) {
	k, _ := aes.New(some(32))
	var block api.Block
	for b.Loop() {
		block = k.Encrypt(block)
	}
}
