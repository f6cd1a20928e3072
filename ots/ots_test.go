package ots_test

import (
	"bytes"
	"encoding/binary"
	"math"
	"slices"
	"testing"

	"curtilage/api"
	"curtilage/ots"
)

// edges are numbers at which something may begin or wrap round.
var edges = []int{
	math.MinInt, math.MinInt + 1, math.MinInt32, -65536, -257, -256, -2, -1,
	0, 1, 2, 254, 255, 256, 257, 65535, 65536, math.MaxInt32, math.MaxInt - 1, math.MaxInt,
}

// messages have the lengths around the hash's blocks.
func messages() [][]byte {
	var l [][]byte
	for _, n := range []int{0, 1, 32, 55, 56, 64, 72, 73, 74, 137, 138, 1000} {
		l = append(l, some(n))
	}
	return l
}

// signed returns a signature.
func signed(t *testing.T, s shape, at ots.Site, seed, c api.Digest, msg []byte) []byte {
	t.Helper()
	sig, e := ots.Sign(s.t, at, seed, c, msg)
	if e != api.OK {
		t.Fatalf("type %d: error %d", s.t, e)
	}
	return sig
}

func TestParams(t *testing.T) {
	for _, s := range shapes {
		p, ok := ots.Params(s.t)
		if !ok || p != (ots.Param{W: s.w, P: s.p, Ls: s.ls}) {
			t.Errorf("type %d: %t, %v", s.t, ok, p)
		}
	}
	for _, n := range noTypes {
		if p, ok := ots.Params(n); ok || p != (ots.Param{}) {
			t.Errorf("type %d: %t, %v", n, ok, p)
		}
	}
}

func TestCoefOfTheRFCsExample(t *testing.T) {
	p := []byte{0x12, 0x34}
	for _, c := range []struct{ i, w, want int }{
		{7, 1, 0}, {0, 4, 1}, // the RFC's own
		{3, 1, 1}, {6, 1, 1}, {10, 1, 1}, {13, 1, 1}, {15, 1, 0},
		{0, 2, 0}, {1, 2, 1}, {2, 2, 0}, {3, 2, 2}, {4, 2, 0}, {5, 2, 3}, {6, 2, 1}, {7, 2, 0},
		{1, 4, 2}, {2, 4, 3}, {3, 4, 4},
		{0, 8, 0x12}, {1, 8, 0x34},
	} {
		if got := ots.Coef(p, c.i, c.w); got != c.want {
			t.Errorf("digit %d of %d bits is %d", c.i, c.w, got)
		}
	}
}

func TestCoefOfEveryDigit(t *testing.T) {
	for n := range 40 {
		p := some(n)
		for _, s := range shapes {
			for i := range 8 / s.w * n {
				if got := ots.Coef(p, i, s.w); got != cut(p, i, s.w) {
					t.Errorf("digit %d, of %d bits, of %x is %d", i, s.w, p, got)
				}
			}
		}
	}
}

func TestCoefOutside(t *testing.T) {
	p := bytes.Repeat([]byte{0xff}, 8)
	for _, w := range []int{1, 2, 4, 8} {
		behind := 8 / w * 5
		for _, i := range append(edges, behind, behind+1, behind+7, math.MaxInt/8, math.MaxInt/8+1, 1<<61) {
			want := 0
			if i >= 0 && i < behind {
				want = 1<<w - 1
			}
			if got := ots.Coef(p[:5], i, w); got != want {
				t.Errorf("digit %d of %d bits is %d", i, w, got)
			}
			if ots.Coef(nil, i, w) != 0 || ots.Coef([]byte{}, i, w) != 0 {
				t.Errorf("digit %d of no bytes", i)
			}
		}
	}
}

func TestCoefOfOtherWidths(t *testing.T) {
	p := bytes.Repeat([]byte{0xff}, 40)
	for _, w := range append(edges, 3, 5, 6, 7, 9, 12, 16, 32, 64, -4, -8) {
		if w == 1 || w == 2 {
			continue
		}
		for _, i := range append(edges, 3) {
			if got := ots.Coef(p, i, w); got != 0 {
				t.Errorf("digit %d of %d bits is %d", i, w, got)
			}
		}
	}
}

// digests returns some at the ends and some between.
func digests() []api.Digest {
	var ones api.Digest
	for i := range ones {
		ones[i] = 0xff
	}
	l := []api.Digest{{}, ones, {31: 1}, {0: 0x80}}
	for n := range 40 {
		l = append(l, digestOf(n))
	}
	return l
}

func TestDigits(t *testing.T) {
	for _, s := range shapes {
		for _, d := range digests() {
			got := ots.Digits(s.t, d)
			if len(got) != s.p || !slices.Equal(got, s.digits(d)) {
				t.Errorf("type %d: %x has the digits %d", s.t, d, got)
			}
		}
	}
	for _, n := range noTypes {
		if got := ots.Digits(n, digestOf(1)); len(got) != 0 {
			t.Errorf("type %d: %d", n, got)
		}
	}
}

func TestDigitsOfTheLeastAndTheGreatest(t *testing.T) {
	sums := map[uint32][]int{ // the checksums of 32 zero bytes
		1: {1, 0, 0, 0, 0, 0, 0, 0, 0},
		2: {1, 2, 0, 0, 0},
		3: {3, 12, 0},
		4: {31, 224},
	}
	for _, s := range shapes {
		n := 256 / s.w
		zero, full := ots.Digits(s.t, api.Digest{}), ots.Digits(s.t, digests()[1])
		if len(zero) != s.p || len(full) != s.p {
			t.Fatalf("type %d: %d and %d digits", s.t, len(zero), len(full))
		}
		if !slices.Equal(zero[:n], make([]int, n)) || !slices.Equal(zero[n:], sums[s.t]) {
			t.Errorf("type %d: zero bytes have %d", s.t, zero)
		}
		if slices.Min(full[:n]) != 1<<s.w-1 || slices.Max(full[n:]) != 0 {
			t.Errorf("type %d: bytes ff have %d", s.t, full)
		}
	}
}

func TestNoDigitsAreAllAtLeastThoseOfAnother(t *testing.T) {
	for _, s := range shapes {
		for i, a := range digests() {
			for j, b := range digests() {
				less := false
				other := ots.Digits(s.t, b)
				for k, x := range ots.Digits(s.t, a) {
					less = less || x < other[k]
				}
				if !less && i != j {
					t.Errorf("type %d: who signs %x signs %x", s.t, b, a)
				}
			}
		}
	}
}

func TestStep(t *testing.T) {
	for n := range 20 {
		at, x := siteOf(n), digestOf(n)
		for _, i := range append(edges, 3, 264, 0x8080, 0x8181, 0x12345) {
			for _, j := range append(edges, 3, 0x1ff) {
				if got := ots.Step(at, i, j, x); got != stepped(at, i, j, x) {
					t.Fatalf("chain %d, position %d: %x", i, j, got)
				}
			}
		}
	}
}

func TestStepTakesTheLowBits(t *testing.T) {
	at, x := siteOf(1), digestOf(1)
	for _, c := range [][4]int{{0x12345, 0, 0x2345, 0}, {-1, 0, 0xffff, 0}, {7, 0x1fe, 7, 0xfe}, {7, -1, 7, 0xff}} {
		if ots.Step(at, c[0], c[1], x) != ots.Step(at, c[2], c[3], x) {
			t.Errorf("chain %d, position %d", c[0], c[1])
		}
	}
}

func TestStepsDifferInWhatTheyAreGiven(t *testing.T) {
	at, x := siteOf(2), digestOf(2)
	first := ots.Step(at, 5, 9, x)
	other := at
	other.ID[15] ^= 1
	next := at
	next.Q++
	for i, d := range []api.Digest{
		ots.Step(other, 5, 9, x), ots.Step(next, 5, 9, x), ots.Step(at, 6, 9, x),
		ots.Step(at, 5+256, 9, x), ots.Step(at, 5, 10, x), ots.Step(at, 5, 9, digestOf(3)), x,
	} {
		if d == first {
			t.Errorf("step %d is the first one", i)
		}
	}
}

func TestChain(t *testing.T) {
	at, x := siteOf(3), digestOf(3)
	for _, from := range []int{0, 1, 2, 14, 15, 100, 254, 255, 256} {
		for _, to := range []int{0, 1, 2, 3, 15, 16, 101, 254, 255, 256} {
			if got := ots.Chain(at, 8, from, to, x); got != chained(at, 8, from, to, x) {
				t.Errorf("from %d to %d: %x", from, to, got)
			}
		}
	}
	for _, i := range edges {
		if got := ots.Chain(at, i, 3, 7, x); got != chained(at, i, 3, 7, x) {
			t.Errorf("chain %d: %x", i, got)
		}
	}
}

func TestChainsOutsideArePulledIn(t *testing.T) {
	at, x := siteOf(4), digestOf(4)
	for _, from := range edges {
		for _, to := range edges {
			want := chained(at, 1, min(max(from, 0), 256), min(to, 256), x)
			if got := ots.Chain(at, 1, from, to, x); got != want {
				t.Errorf("from %d to %d: %x", from, to, got)
			}
		}
	}
}

func TestChainsJoin(t *testing.T) {
	at, x := siteOf(5), digestOf(5)
	whole := ots.Chain(at, 2, 0, 255, x)
	for mid := range 256 {
		if ots.Chain(at, 2, mid, 255, ots.Chain(at, 2, 0, mid, x)) != whole {
			t.Errorf("a chain that stops at %d ends elsewhere", mid)
		}
	}
}

func TestSecret(t *testing.T) {
	for n := range 20 {
		at, seed := siteOf(n), digestOf(n)
		for _, i := range append(edges, 33, 66, 132, 264) {
			if got := ots.Secret(at, i, seed); got != secret(at, i, seed) {
				t.Errorf("chain %d: %x", i, got)
			}
		}
	}
}

func TestMash(t *testing.T) {
	for n, msg := range messages() {
		at, c := siteOf(n), digestOf(n)
		if got := ots.Mash(at, c, msg); got != mashed(at, c, msg) {
			t.Errorf("%d bytes: %x", len(msg), got)
		}
	}
	at, c := siteOf(1), digestOf(1)
	if ots.Mash(at, c, nil) != ots.Mash(at, c, []byte{}) {
		t.Error("nil is another message than no bytes")
	}
}

func TestFold(t *testing.T) {
	var l []api.Digest
	for n := range 300 {
		at := siteOf(n)
		if got := ots.Fold(at, l...); got != folded(at, l) {
			t.Errorf("of %d: %x", n, got)
		}
		l = append(l, digestOf(n))
	}
	at, a, b := siteOf(1), digestOf(1), digestOf(2)
	if ots.Fold(at) != folded(at, nil) || ots.Fold(at, a, b) != folded(at, []api.Digest{a, b}) {
		t.Error("one by one, they fold otherwise")
	}
	if ots.Fold(at, a, b) == ots.Fold(at, b, a) {
		t.Error("their order does not count")
	}
}

func TestPublic(t *testing.T) {
	for _, s := range shapes {
		for n := range 3 {
			at, seed := siteOf(n), digestOf(n)
			if k, e := ots.Public(s.t, at, seed); e != api.OK || k != s.public(at, seed) {
				t.Errorf("type %d: error %d, %x", s.t, e, k)
			}
		}
	}
	for _, n := range noTypes {
		if k, e := ots.Public(n, siteOf(1), digestOf(1)); e != api.ErrType || k != (api.Digest{}) {
			t.Errorf("type %d: error %d, %x", n, e, k)
		}
	}
}

func TestSign(t *testing.T) {
	for _, s := range shapes {
		for n, msg := range messages() {
			at, seed, c := siteOf(n), digestOf(n), digestOf(n+1)
			sig := signed(t, s, at, seed, c, msg)
			if len(sig) != s.length() || !bytes.Equal(sig, s.sign(at, seed, c, msg)) {
				t.Errorf("type %d, a message of %d bytes: %d bytes", s.t, len(msg), len(sig))
			}
		}
	}
	for _, n := range noTypes {
		if sig, e := ots.Sign(n, siteOf(1), digestOf(1), digestOf(2), some(3)); e != api.ErrType || len(sig) != 0 {
			t.Errorf("type %d: error %d, %d bytes", n, e, len(sig))
		}
	}
}

func TestSplit(t *testing.T) {
	for _, s := range shapes {
		sig := append(binary.BigEndian.AppendUint32(nil, s.t), some(s.length()-4)...)
		n, c, l, e := ots.Split(sig)
		if e != api.OK || n != s.t || !bytes.Equal(c[:], sig[4:36]) || len(l) != s.p {
			t.Fatalf("type %d: error %d, type %d, C %x, %d values", s.t, e, n, c, len(l))
		}
		for i, x := range l {
			if !bytes.Equal(x[:], sig[36+32*i:][:32]) {
				t.Errorf("type %d: value %d is %x", s.t, i, x)
			}
		}
	}
}

// rejected holds that Split and Claim reject sig with the error.
func rejected(t *testing.T, sig []byte, want api.Errno) {
	t.Helper()
	n, c, l, e := ots.Split(sig)
	if e != want || n != 0 || c != (api.Digest{}) || len(l) != 0 {
		t.Errorf("%d bytes, %x: error %d, type %d, C %x, %d values", len(sig), sig[:min(len(sig), 4)], e, n, c, len(l))
	}
	if k, e := ots.Claim(siteOf(1), sig, some(5)); e != want || k != (api.Digest{}) {
		t.Errorf("%d bytes, %x: error %d, claims %x", len(sig), sig[:min(len(sig), 4)], e, k)
	}
}

func TestSignaturesWithoutAType(t *testing.T) {
	for _, size := range []int{0, 1, 2, 3} {
		rejected(t, make([]byte, size), api.ErrForm)
		rejected(t, []byte{0, 0, 0, 1}[:size], api.ErrForm)
		rejected(t, []byte{0xff, 0xff, 0xff, 0xff}[:size], api.ErrForm)
	}
	rejected(t, nil, api.ErrForm)
	for _, n := range noTypes {
		for _, size := range []int{4, 5, 36, 1124, 2180, 4292, 8516, 9000} {
			sig := some(size)
			binary.BigEndian.PutUint32(sig, n)
			rejected(t, sig, api.ErrType)
		}
	}
}

func TestSignaturesOfAnotherLength(t *testing.T) {
	for _, s := range shapes {
		right := s.length()
		for _, size := range []int{
			4, 5, 35, 36, 37, 68, right - 32, right - 2, right - 1,
			right + 1, right + 2, right + 32, 2 * right, 1124, 2180, 4292, 8516,
		} {
			if size == right {
				continue
			}
			sig := some(size)
			binary.BigEndian.PutUint32(sig, s.t)
			rejected(t, sig, api.ErrForm)
		}
	}
}

func TestEveryLengthOfTheShortestType(t *testing.T) {
	s := shapes[3]
	sig := append(signed(t, s, siteOf(1), digestOf(1), digestOf(2), some(9)), some(200)...)
	for size := range sig {
		if size == s.length() {
			if _, e := ots.Claim(siteOf(1), sig[:size], some(9)); e != api.OK {
				t.Errorf("the whole signature: error %d", e)
			}
			continue
		}
		rejected(t, sig[:size], api.ErrForm)
	}
}

func TestClaimIsPublic(t *testing.T) {
	for _, s := range shapes {
		for n, msg := range messages() {
			at, seed, c := siteOf(n), digestOf(n), digestOf(n+1)
			want, _ := ots.Public(s.t, at, seed)
			k, e := ots.Claim(at, signed(t, s, at, seed, c, msg), msg)
			if e != api.OK || k != want || k != s.public(at, seed) {
				t.Errorf("type %d, a message of %d bytes: error %d, claims %x", s.t, len(msg), e, k)
			}
		}
	}
}

func TestClaimOfSomethingElse(t *testing.T) {
	for _, s := range shapes {
		at, seed, msg := siteOf(6), digestOf(6), some(40)
		k, _ := ots.Public(s.t, at, seed)
		sig := signed(t, s, at, seed, digestOf(7), msg)
		other, next := at, at
		other.ID[0] ^= 0x80
		next.Q++
		for i, c := range []struct {
			at  ots.Site
			msg []byte
		}{{other, msg}, {next, msg}, {at, some(39)}, {at, msg[:39]}, {at, nil}} {
			if got, e := ots.Claim(c.at, sig, c.msg); e != api.OK || got == k {
				t.Errorf("type %d, case %d: error %d, claims %x", s.t, i, e, got)
			}
		}
		for i := 4; i < len(sig); i += 31 {
			bad := slices.Clone(sig)
			bad[i] ^= 1
			if got, e := ots.Claim(at, bad, msg); e != api.OK || got == k {
				t.Errorf("type %d, byte %d: error %d, claims %x", s.t, i, e, got)
			}
		}
	}
}

// claimed is the RFC's algorithm 4b.
func (s shape) claimed(at ots.Site, sig, msg []byte) api.Digest {
	var ends []api.Digest
	for i, a := range s.digits(mashed(at, api.Digest(sig[4:36]), msg)) {
		ends = append(ends, chained(at, i, a, 1<<s.w-1, api.Digest(sig[36+32*i:][:32])))
	}
	return folded(at, ends)
}

func TestClaimOfWhatNobodySigned(t *testing.T) {
	for _, s := range shapes {
		for n, msg := range messages() {
			sig := append(binary.BigEndian.AppendUint32(nil, s.t), some(s.length() - 4 + n)[n:]...)
			at := siteOf(n)
			if k, e := ots.Claim(at, sig, msg); e != api.OK || k != s.claimed(at, sig, msg) {
				t.Errorf("type %d: error %d, claims %x", s.t, e, k)
			}
		}
	}
}

func TestArgumentsAreNeitherChangedNorKept(t *testing.T) {
	for _, s := range shapes {
		at, seed, c := siteOf(8), digestOf(8), digestOf(9)
		store := append(signed(t, s, at, seed, c, some(20)), some(300)...)
		kept := slices.Clone(store)
		sig, msg := store[:s.length()], store[s.length():][:100]
		ends := slices.Repeat([]api.Digest{c, seed}, 40)
		ots.Fold(at, ends[:50]...)
		ots.Coef(sig, 3, s.w)
		made := signed(t, s, at, seed, c, msg)
		_, _, values, _ := ots.Split(sig)
		ots.Claim(at, sig, msg)
		ots.Mash(at, c, msg)
		if !bytes.Equal(store, kept) || !slices.Equal(ends, slices.Repeat([]api.Digest{c, seed}, 40)) {
			t.Fatalf("type %d: an argument is changed", s.t)
		}
		clear(store)
		if !bytes.Equal(made, s.sign(at, seed, c, kept[s.length():][:100])) {
			t.Errorf("type %d: a message is kept", s.t)
		}
		for i, x := range values {
			if !bytes.Equal(x[:], kept[36+32*i:][:32]) {
				t.Errorf("type %d: value %d is kept", s.t, i)
			}
		}
	}
}

func TestResultsAreNewMemory(t *testing.T) {
	for _, s := range shapes {
		at, seed, c := siteOf(9), digestOf(9), digestOf(10)
		digits, sig := ots.Digits(s.t, seed), signed(t, s, at, seed, c, nil)
		_, _, values, _ := ots.Split(sig)
		kept := slices.Clone(sig)
		clear(values[:cap(values)])
		clear(digits[:cap(digits)])
		if !bytes.Equal(sig, kept) || !slices.Equal(ots.Digits(s.t, seed), s.digits(seed)) {
			t.Errorf("type %d: a result shares memory", s.t)
		}
		clear(sig[:cap(sig)])
		if !bytes.Equal(signed(t, s, at, seed, c, nil), kept) {
			t.Errorf("type %d: two signatures share memory", s.t)
		}
		if p, _ := ots.Params(s.t); p != (ots.Param{W: s.w, P: s.p, Ls: s.ls}) {
			t.Errorf("type %d: its parameters have changed", s.t)
		}
	}
}

func BenchmarkPublic(b *testing.B) {
	seed := digestOf(1)
	for b.Loop() {
		seed, _ = ots.Public(4, siteOf(1), seed)
	}
}
