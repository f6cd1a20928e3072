package sha_test

import (
	"bytes"
	"crypto/sha256"
	"encoding"
	"encoding/binary"
	"encoding/hex"
	"math"
	"slices"
	"strings"
	"testing"

	"curtilage/api"
	"curtilage/sha"
)

// initial is the hash value before the first block, as the standard prints it.
var initial = [8]uint32{
	0x6a09e667, 0xbb67ae85, 0x3c6ef372, 0xa54ff53a,
	0x510e527f, 0x9b05688c, 0x1f83d9ab, 0x5be0cd19,
}

// some returns n bytes without a short period.
func some(n int) []byte {
	p := make([]byte, n)
	x := uint32(n)*2654435761 + 1
	for i := range p {
		x = x*1664525 + 1013904223
		p[i] = byte(x >> 24)
	}
	return p
}

// standard is the library's sum, to hold ours against.
func standard(p []byte) api.Digest { return api.Digest(sha256.Sum256(p)) }

func TestSumOfKnownMessages(t *testing.T) {
	for _, c := range []struct{ msg, want string }{
		{"", "e3b0c44298fc1c149afbf4c8996fb92427ae41e4649b934ca495991b7852b855"},
		{"abc", "ba7816bf8f01cfea414140de5dae2223b00361a396177a9cb410ff61f20015ad"},
		{"abcdbcdecdefdefgefghfghighijhijkijkljklmklmnlmnomnopnopq",
			"248d6a61d20638b8e5c026930c3e6039a33ce45964ff2167f6ecedd419db06c1"},
		{"abcdefghbcdefghicdefghijdefghijkefghijklfghijklmghijklmnhijklmnoijklmnopjklmnopqklmnopqrlmnopqrsmnopqrstnopqrstu",
			"cf5b16a778af8380036ce59e7b0492370b249b11e8f07a51afac45037afee9d1"},
		{strings.Repeat("a", 1000000),
			"cdc76e5c9914fb9281a1c7e284d73e67f1809a48a497200e046d39ccc7112cd0"},
	} {
		d := sha.Sum([]byte(c.msg))
		if hex.EncodeToString(d[:]) != c.want {
			t.Errorf("the sum of %.20q.. is %x", c.msg, d)
		}
	}
}

func TestSumOfEveryLength(t *testing.T) {
	for n := range 300 {
		p := some(n)
		if sha.Sum(p) != standard(p) || sha.New().Feed(p).Sum() != standard(p) {
			t.Errorf("the sum of %d bytes is wrong", n)
		}
	}
}

func TestSumJoinsItsParts(t *testing.T) {
	p := some(200)
	want := standard(p)
	for i := range p {
		if sha.Sum(p[:i], p[i:]) != want {
			t.Errorf("split at %d", i)
		}
	}
	if sha.Sum(nil, p[:63], []byte{}, p[63:64], nil, p[64:130], p[130:], nil) != want {
		t.Error("empty parts count")
	}
	empty := standard(nil)
	if sha.Sum() != empty || sha.Sum(nil) != empty || sha.Sum([]byte{}, nil) != empty {
		t.Error("no part, a nil and an empty one differ")
	}
}

func TestStatesAreEqualHoweverSplit(t *testing.T) {
	p := some(200)
	for n := range len(p) + 1 {
		whole := sha.New().Feed(p[:n])
		single := sha.New()
		for i := range n {
			single = single.Feed(p[i : i+1])
		}
		if single != whole {
			t.Fatalf("%d bytes one by one", n)
		}
		for i := range n + 1 {
			if sha.New().Feed(p[:i]).Feed(p[i:n]) != whole {
				t.Fatalf("%d bytes split at %d", n, i)
			}
		}
	}
}

func TestStatesTellWhatWasFed(t *testing.T) {
	p := some(200)
	seen := map[sha.State]int{}
	for n := range len(p) + 1 {
		s := sha.New().Feed(p[:n])
		if m, ok := seen[s]; ok {
			t.Errorf("%d and %d bytes have one state", m, n)
		}
		seen[s] = n
	}
	if sha.New().Feed([]byte{0}) == sha.New() {
		t.Error("a zero byte leaves no trace")
	}
}

func TestLenCountsTheBytesFed(t *testing.T) {
	if sha.New().Len() != 0 {
		t.Error("a new state is not empty")
	}
	s, n := sha.New(), 0
	for i := range 150 {
		s = s.Feed(some(i))
		n += i
		if s.Len() != uint64(n) {
			t.Fatalf("%d after %d bytes", s.Len(), n)
		}
	}
}

func TestFeedOfNothing(t *testing.T) {
	for _, n := range []int{0, 1, 63, 64, 65} {
		s := sha.New().Feed(some(n))
		if s.Feed(nil) != s || s.Feed([]byte{}) != s {
			t.Errorf("it changes a state of %d bytes", n)
		}
	}
}

func TestSumLeavesTheStateToBeFed(t *testing.T) {
	p := some(300)
	s := sha.New()
	for n := range p {
		before := s
		if s.Sum() != standard(p[:n]) || s.Sum() != standard(p[:n]) {
			t.Fatalf("the sum after %d bytes, fed between sums", n)
		}
		if s != before {
			t.Fatalf("Sum changes a state of %d bytes", n)
		}
		s = s.Feed(p[n : n+1])
	}
}

func TestStatesAreValues(t *testing.T) {
	p := some(100)
	s := sha.New().Feed(p[:70])
	kept := s
	left, right := s.Feed(p[70:]), s.Feed([]byte("else"))
	if s != kept || s.Sum() != standard(p[:70]) || s.Len() != 70 {
		t.Error("feeding a state changes it")
	}
	if left.Sum() != standard(p) || right.Sum() != standard(append(some(100)[:70], "else"...)) {
		t.Error("two that go on from one state disturb each other")
	}
	if sha.New() != sha.New() || sha.New().Sum() != standard(nil) {
		t.Error("a new state is not that of the empty message")
	}
}

func TestArgumentsAreNeitherChangedNorKept(t *testing.T) {
	store := some(400)
	kept := slices.Clone(store)
	part := store[:130]
	parts := [][]byte{part, store[130:200]}
	s := sha.New().Feed(part)
	sum := sha.Sum(parts...)
	if !bytes.Equal(store, kept) || len(parts[0]) != 130 || len(parts[1]) != 70 {
		t.Fatal("an argument is changed")
	}
	clear(store)
	if s.Sum() != standard(kept[:130]) || sum != standard(kept[:200]) {
		t.Error("an argument is kept")
	}
}

// pressed is the library's compression: its hash is set to the state h, is
// fed the block, and gives out its state.
func pressed(t *testing.T, h [8]uint32, b [64]byte) [8]uint32 {
	t.Helper()
	hash := sha256.New()
	inside, err := hash.(encoding.BinaryMarshaler).MarshalBinary()
	if err != nil {
		t.Fatal(err)
	}
	const magic = 4 // the bytes before the eight words
	for i, x := range h {
		binary.BigEndian.PutUint32(inside[magic+4*i:], x)
	}
	if err := hash.(encoding.BinaryUnmarshaler).UnmarshalBinary(inside); err != nil {
		t.Fatal(err)
	}
	hash.Write(b[:])
	if inside, err = hash.(encoding.BinaryMarshaler).MarshalBinary(); err != nil {
		t.Fatal(err)
	}
	for i := range h {
		h[i] = binary.BigEndian.Uint32(inside[magic+4*i:])
	}
	return h
}

func TestPressOfTheStandardsBlock(t *testing.T) {
	var b [64]byte
	copy(b[:], "abc\x80")
	b[63] = 24
	want := [8]uint32{
		0xba7816bf, 0x8f01cfea, 0x414140de, 0x5dae2223,
		0xb00361a3, 0x96177a9c, 0xb410ff61, 0xf20015ad,
	}
	if got := sha.Press(initial, b); got != want {
		t.Errorf("%08x", got)
	}
}

func TestPressFromAnyState(t *testing.T) {
	states := [][8]uint32{{}, initial}
	for i := range 20 {
		states = append(states, sha.Words(standard(some(i))))
	}
	var ones [8]uint32
	for i := range ones {
		ones[i] = math.MaxUint32
	}
	for _, h := range append(states, ones) {
		for n := range 20 {
			b := [64]byte(some(64 + n))
			kept, words := b, h
			if got := sha.Press(h, b); got != pressed(t, h, b) {
				t.Fatalf("from %08x with %x: %08x", h, b, got)
			}
			if b != kept || h != words {
				t.Fatal("an argument is changed")
			}
		}
	}
}

func TestPressAndPadMakeTheSum(t *testing.T) {
	for n := range 200 {
		p := append(some(n), sha.Pad(uint64(n))...)
		h := initial
		for len(p) > 0 {
			h = sha.Press(h, [64]byte(p[:64]))
			p = p[64:]
		}
		if sha.Digest(h) != sha.Sum(some(n)) {
			t.Errorf("%d bytes", n)
		}
	}
}

func TestWordsAndDigestAreBigEndian(t *testing.T) {
	var d api.Digest
	for i := range d {
		d[i] = byte(0xe0 + i)
	}
	w := [8]uint32{
		0xe0e1e2e3, 0xe4e5e6e7, 0xe8e9eaeb, 0xecedeeef,
		0xf0f1f2f3, 0xf4f5f6f7, 0xf8f9fafb, 0xfcfdfeff,
	}
	if sha.Words(d) != w || sha.Digest(w) != d {
		t.Errorf("%08x, %x", sha.Words(d), sha.Digest(w))
	}
	for n := range 100 {
		d := api.Digest(some(32 + n)[:32])
		if sha.Digest(sha.Words(d)) != d {
			t.Errorf("there and back: %x", d)
		}
	}
}

func TestPadOfEveryLength(t *testing.T) {
	for n := range uint64(300) {
		p := sha.Pad(n)
		zeros := len(p) - 9
		if zeros < 0 || zeros > 63 || (n+uint64(len(p)))%64 != 0 {
			t.Fatalf("%d bytes after %d", len(p), n)
		}
		want := append([]byte{0x80}, make([]byte, zeros)...)
		want = binary.BigEndian.AppendUint64(want, 8*n)
		if !bytes.Equal(p, want) {
			t.Errorf("after %d: %x", n, p)
		}
	}
}

func TestPadAtTheEdges(t *testing.T) {
	for _, c := range []struct {
		n    uint64
		size int
		bits string
	}{
		{0, 64, "0000000000000000"},
		{55, 9, "00000000000001b8"},
		{56, 72, "00000000000001c0"},
		{63, 65, "00000000000001f8"},
		{64, 64, "0000000000000200"},
		{119, 9, "00000000000003b8"},
		{1<<32 - 1, 65, "00000007fffffff8"},
		{1 << 32, 64, "0000000800000000"},
		{1<<61 - 1, 65, "fffffffffffffff8"},
		{1 << 61, 64, "0000000000000000"},
		{1<<61 + 3, 61, "0000000000000018"},
		{1 << 63, 64, "0000000000000000"},
		{math.MaxUint64 - 8, 9, "ffffffffffffffb8"},
		{math.MaxUint64 - 7, 72, "ffffffffffffffc0"},
		{math.MaxUint64, 65, "fffffffffffffff8"},
	} {
		p := sha.Pad(c.n)
		if len(p) != c.size || p[0] != 0x80 || hex.EncodeToString(p[len(p)-8:]) != c.bits {
			t.Errorf("after %d: %x", c.n, p)
		}
	}
}

func TestPadIsNewMemory(t *testing.T) {
	first, second := sha.Pad(3), sha.Pad(3)
	kept := slices.Clone(second)
	first = first[:cap(first)]
	for i := range first {
		first[i] = 0xff
	}
	if !bytes.Equal(second, kept) || !bytes.Equal(sha.Pad(3), kept) {
		t.Error("two results share memory")
	}
}

func BenchmarkPress(b *testing.B) {
	h, block := initial, [64]byte(some(64))
	for b.Loop() {
		h = sha.Press(h, block)
	}
}
