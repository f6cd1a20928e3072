package mode_test

import (
	"bytes"
	stdaes "crypto/aes"
	"crypto/cipher"
	"encoding/hex"
	"math"
	"slices"
	"testing"

	"curtilage/aes"
	"curtilage/api"
	"curtilage/mode"
)

// some returns n bytes without a short period.
func some(n int) []byte {
	p := make([]byte, n)
	x := uint32(n)*2654435761 + 1
	for i := range p {
		x = x*1664525 + 1013904223
		p[i] = byte(x >> 24)
	}
	return p
}

func bytesOf(t *testing.T, text string) []byte {
	t.Helper()
	p, err := hex.DecodeString(text)
	if err != nil {
		t.Fatal(err)
	}
	return p
}

func blockOf(t *testing.T, text string) api.Block {
	t.Helper()
	return api.Block(bytesOf(t, text))
}

func made(t *testing.T, kind int, back bool, key []byte, start api.Block) mode.Mode {
	t.Helper()
	m, e := mode.New(kind, back, key, start)
	if e != api.OK {
		t.Fatalf("kind %d, a key of %d bytes: error %d", kind, len(key), e)
	}
	return m
}

// ran returns what is left of the mode and its result.
func ran(t *testing.T, m mode.Mode, p []byte) (mode.Mode, []byte) {
	t.Helper()
	next, out, e := m.Run(p)
	if e != api.OK {
		t.Fatalf("a run of %d bytes: error %d", len(p), e)
	}
	return next, out
}

// everyMode calls f with each kind, direction and length of key.
func everyMode(t *testing.T, f func(kind int, back bool, key []byte, start api.Block)) {
	t.Helper()
	for _, kind := range []int{mode.ECB, mode.CBC, mode.CTR} {
		for _, back := range []bool{false, true} {
			for _, n := range []int{16, 32} {
				f(kind, back, some(n), api.Block(some(16)))
			}
		}
	}
}

// The examples of SP 800-38A: four blocks, two keys, and where they start.
const (
	shortKey = "2b7e151628aed2a6abf7158809cf4f3c"
	longKey  = "603deb1015ca71be2b73aef0857d77811f352c073b6108d72d9810a30914dff4"
	chainAt  = "000102030405060708090a0b0c0d0e0f"
	countAt  = "f0f1f2f3f4f5f6f7f8f9fafbfcfdfeff"
	plain    = "6bc1bee22e409f96e93d7e117393172aae2d8a571e03ac9c9eb76fac45af8e51" +
		"30c81c46a35ce411e5fbc1191a0a52eff69f2445df4f9b17ad2b417be66c3710"
)

func TestTheStandardsExamples(t *testing.T) {
	for _, c := range []struct {
		kind               int
		key, start, cipher string
	}{
		{mode.ECB, shortKey, chainAt, "3ad77bb40d7a3660a89ecaf32466ef97f5d3d58503b9699de785895a96fdbaaf" +
			"43b1cd7f598ece23881b00e3ed0306887b0c785e27e8ad3f8223207104725dd4"},
		{mode.ECB, longKey, chainAt, "f3eed1bdb5d2a03c064b5a7e3db181f8591ccb10d410ed26dc5ba74a31362870" +
			"b6ed21b99ca6f4f9f153e7b1beafed1d23304b7a39f9f3ff067d8d8f9e24ecc7"},
		{mode.CBC, shortKey, chainAt, "7649abac8119b246cee98e9b12e9197d5086cb9b507219ee95db113a917678b2" +
			"73bed6b8e3c1743b7116e69e222295163ff1caa1681fac09120eca307586e1a7"},
		{mode.CBC, longKey, chainAt, "f58c4c04d6e5f1ba779eabfb5f7bfbd69cfc4e967edb808d679f777bc6702c7d" +
			"39f23369a9d9bacfa530e26304231461b2eb05e2c39be9fcda6c19078c6a9d1b"},
		{mode.CTR, shortKey, countAt, "874d6191b620e3261bef6864990db6ce9806f66b7970fdff8617187bb9fffdff" +
			"5ae4df3edbd5d35e5b4f09020db03eab1e031dda2fbe03d1792170a0f3009cee"},
		{mode.CTR, longKey, countAt, "601ec313775789a5b7a7f504bbf3d228f443e3ca4d62b59aca84e990cacaf5c5" +
			"2b0930daa23de94ce87017ba2d84988ddfc9c58db67aada613c2dd08457941a6"},
	} {
		key, start := bytesOf(t, c.key), blockOf(t, c.start)
		_, out := ran(t, made(t, c.kind, false, key, start), bytesOf(t, plain))
		if hex.EncodeToString(out) != c.cipher {
			t.Errorf("kind %d by %d bytes: %x", c.kind, len(key), out)
		}
		_, out = ran(t, made(t, c.kind, true, key, start), bytesOf(t, c.cipher))
		if hex.EncodeToString(out) != plain {
			t.Errorf("kind %d by %d bytes, back: %x", c.kind, len(key), out)
		}
	}
}

// standard is the library's result, to hold ours against.
func standard(t *testing.T, kind int, back bool, key []byte, start api.Block, p []byte) []byte {
	t.Helper()
	c, err := stdaes.NewCipher(key)
	if err != nil {
		t.Fatal(err)
	}
	out := make([]byte, len(p))
	switch {
	case kind == mode.CTR:
		cipher.NewCTR(c, start[:]).XORKeyStream(out, p)
	case kind == mode.CBC && back:
		cipher.NewCBCDecrypter(c, start[:]).CryptBlocks(out, p)
	case kind == mode.CBC:
		cipher.NewCBCEncrypter(c, start[:]).CryptBlocks(out, p)
	case back:
		for i := 0; i < len(p); i += 16 {
			c.Decrypt(out[i:], p[i:])
		}
	default:
		for i := 0; i < len(p); i += 16 {
			c.Encrypt(out[i:], p[i:])
		}
	}
	return out
}

func TestRunAgreesWithTheLibrary(t *testing.T) {
	everyMode(t, func(kind int, back bool, key []byte, start api.Block) {
		for blocks := range 20 {
			p := some(16 * blocks)
			_, out := ran(t, made(t, kind, back, key, start), p)
			if !bytes.Equal(out, standard(t, kind, back, key, start, p)) {
				t.Fatalf("kind %d, back %t, %d blocks: %x", kind, back, blocks, out)
			}
		}
	})
}

func TestNewRefuses(t *testing.T) {
	for _, kind := range []int{math.MinInt, -1, 3, 4, 256, 1 << 32, math.MaxInt} {
		for _, n := range []int{0, 16, 32} {
			if m, e := mode.New(kind, false, some(n), api.Block{1}); e != api.ErrArg || m != (mode.Mode{}) {
				t.Errorf("kind %d by %d bytes: error %d", kind, n, e)
			}
		}
	}
	for _, n := range []int{0, 1, 15, 17, 24, 31, 33, 64} {
		for kind := range 3 {
			if m, e := mode.New(kind, true, some(n), api.Block{1}); e != api.ErrArg || m != (mode.Mode{}) {
				t.Errorf("kind %d by %d bytes: error %d", kind, n, e)
			}
		}
	}
}

func TestStepByItsDefinition(t *testing.T) {
	everyMode(t, func(kind int, back bool, key []byte, start api.Block) {
		k, _ := aes.New(key)
		m, v := made(t, kind, back, key, start), start
		for i := range 10 {
			b := api.Block(some(16 + i)[:16])
			var want api.Block
			switch {
			case kind == mode.CTR:
				want, v = aes.Xor(b, k.Encrypt(v)), mode.Next(v)
			case kind == mode.CBC && back:
				want, v = aes.Xor(k.Decrypt(b), v), b
			case kind == mode.CBC:
				want = k.Encrypt(aes.Xor(b, v))
				v = want
			case back:
				want = k.Decrypt(b)
			default:
				want = k.Encrypt(b)
			}
			var got api.Block
			if m, got = m.Step(b); got != want || m.At() != v {
				t.Fatalf("kind %d, back %t, block %d: %x, then at %x", kind, back, i, got, m.At())
			}
		}
	})
}

func TestAt(t *testing.T) {
	everyMode(t, func(kind int, back bool, key []byte, start api.Block) {
		m := made(t, kind, back, key, start)
		if m.At() != start {
			t.Errorf("kind %d, back %t: begins at %x", kind, back, m.At())
		}
		p := some(48)
		next, out := ran(t, m, p)
		want := start
		switch {
		case kind == mode.CBC && back:
			want = api.Block(p[32:])
		case kind == mode.CBC:
			want = api.Block(out[32:])
		case kind == mode.CTR:
			want = mode.Next(mode.Next(mode.Next(start)))
		}
		if next.At() != want || m.At() != start {
			t.Errorf("kind %d, back %t: at %x after three blocks", kind, back, next.At())
		}
	})
}

func TestRunIsAStepForEachBlock(t *testing.T) {
	everyMode(t, func(kind int, back bool, key []byte, start api.Block) {
		m := made(t, kind, back, key, start)
		p := some(16 * 9)
		single := m
		var joined []byte
		for i := 0; i < len(p); i += 16 {
			var b api.Block
			single, b = single.Step(api.Block(p[i : i+16]))
			joined = append(joined, b[:]...)
		}
		whole, out := ran(t, m, p)
		if !bytes.Equal(out, joined) || whole != single {
			t.Errorf("kind %d, back %t: the steps and the run differ", kind, back)
		}
		for i := 0; i <= len(p); i += 16 {
			half, first := ran(t, m, p[:i])
			end, second := ran(t, half, p[i:])
			if !bytes.Equal(append(first, second...), out) || end != whole {
				t.Errorf("kind %d, back %t: split at %d", kind, back, i)
			}
		}
	})
}

func TestRunOfNoBytes(t *testing.T) {
	everyMode(t, func(kind int, back bool, key []byte, start api.Block) {
		m := made(t, kind, back, key, start)
		for _, p := range [][]byte{nil, {}, some(5)[:0]} {
			if next, out := ran(t, m, p); len(out) != 0 || next != m {
				t.Errorf("kind %d, back %t: %x, then at %x", kind, back, out, next.At())
			}
		}
	})
}

func TestRunOfNoWholeBlocks(t *testing.T) {
	everyMode(t, func(kind int, back bool, key []byte, start api.Block) {
		m := made(t, kind, back, key, start)
		kept := m
		for n := range 70 {
			if n%16 == 0 {
				continue
			}
			next, out, e := m.Run(some(n))
			if e != api.ErrArg || len(out) != 0 || next != (mode.Mode{}) || m != kept {
				t.Errorf("kind %d, back %t, %d bytes: error %d, %x", kind, back, n, e, out)
			}
		}
	})
}

func TestModeThatNewDidNotCreate(t *testing.T) {
	var m mode.Mode
	for _, p := range [][]byte{nil, {}} {
		if next, out := ran(t, m, p); len(out) != 0 || next != m {
			t.Errorf("of no bytes: %x", out)
		}
	}
	if _, out, e := m.Run(some(17)); e != api.ErrArg || len(out) != 0 {
		t.Errorf("of 17 bytes: error %d, %x", e, out)
	}
	if out, e := mode.All(nil, m, m); e != api.OK || len(out) != 0 {
		t.Errorf("all of no bytes: error %d, %x", e, out)
	}
}

func TestThereAndBack(t *testing.T) {
	p := some(16 * 7)
	for _, kind := range []int{mode.ECB, mode.CBC, mode.CTR} {
		for _, n := range []int{16, 32} {
			key, start := some(n), api.Block(some(16))
			there, back := made(t, kind, false, key, start), made(t, kind, true, key, start)
			for _, l := range [][]mode.Mode{{there, back}, {back, there}} {
				if out, e := mode.All(p, l...); e != api.OK || !bytes.Equal(out, p) {
					t.Errorf("kind %d by %d bytes: error %d, %x", kind, n, e, out)
				}
			}
		}
	}
}

func TestTheCounterCountsRound(t *testing.T) {
	for _, text := range []string{
		"ffffffffffffffffffffffffffffffff",
		"fffffffffffffffffffffffffffffffe",
		"0000000000000000ffffffffffffffff",
		"000000000000000000000000fffffffe",
	} {
		key, start, p := some(16), blockOf(t, text), some(64)
		for _, back := range []bool{false, true} {
			m, out := ran(t, made(t, mode.CTR, back, key, start), p)
			if !bytes.Equal(out, standard(t, mode.CTR, back, key, start, p)) {
				t.Errorf("from %s: %x", text, out)
			}
			if m.At() != mode.Next(mode.Next(mode.Next(mode.Next(start)))) {
				t.Errorf("from %s: at %x", text, m.At())
			}
		}
	}
}

func TestNext(t *testing.T) {
	for _, c := range [][2]string{
		{"00000000000000000000000000000000", "00000000000000000000000000000001"},
		{"000000000000000000000000000000fe", "000000000000000000000000000000ff"},
		{"000000000000000000000000000000ff", "00000000000000000000000000000100"},
		{"0102030405060708090a0b0c0dffffff", "0102030405060708090a0b0c0e000000"},
		{"0000000000000000ffffffffffffffff", "00000000000000010000000000000000"},
		{"00ffffffffffffffffffffffffffffff", "01000000000000000000000000000000"},
		{"ffffffffffffffffffffffffffffff00", "ffffffffffffffffffffffffffffff01"},
		{"ffffffffffffffffffffffffffffffff", "00000000000000000000000000000000"},
	} {
		if got := mode.Next(blockOf(t, c[0])); got != blockOf(t, c[1]) {
			t.Errorf("after %s: %x", c[0], got)
		}
	}
}

func TestModesAreValues(t *testing.T) {
	everyMode(t, func(kind int, back bool, key []byte, start api.Block) {
		m := made(t, kind, back, key, start)
		kept, p := m, some(32)
		_, once := ran(t, m, p)
		m.Step(api.Block{7})
		left, _ := m.Step(api.Block{1})
		right, _ := m.Step(api.Block{2})
		if m != kept || m != made(t, kind, back, key, start) {
			t.Fatalf("kind %d, back %t: going on changes a mode", kind, back)
		}
		if _, again := ran(t, m, p); !bytes.Equal(once, again) {
			t.Errorf("kind %d, back %t: a second run differs", kind, back)
		}
		if same := left == right; same != (kind != mode.CBC) {
			t.Errorf("kind %d, back %t: after two blocks, equal %t", kind, back, same)
		}
	})
}

func TestModesTellTheirArguments(t *testing.T) {
	key, start := some(16), api.Block(some(16))
	m := made(t, mode.CBC, false, key, start)
	for i, other := range []mode.Mode{
		made(t, mode.ECB, false, key, start),
		made(t, mode.CTR, false, key, start),
		made(t, mode.CBC, true, key, start),
		made(t, mode.CBC, false, some(32), start),
		made(t, mode.CBC, false, key, api.Block{}),
	} {
		_, out := ran(t, m, some(32))
		if _, got := ran(t, other, some(32)); m == other || bytes.Equal(out, got) {
			t.Errorf("mode %d is the first one", i)
		}
	}
}

func TestAllOfSeveralModes(t *testing.T) {
	p := some(16 * 5)
	a := made(t, mode.CBC, false, some(16), api.Block(some(16)))
	b := made(t, mode.ECB, true, some(32), api.Block{})
	c := made(t, mode.CTR, false, some(16), api.Block{15: 0xff})
	want := p
	for n, m := range []mode.Mode{a, b, c, a} {
		_, want = ran(t, m, want)
		if out, e := mode.All(p, []mode.Mode{a, b, c, a}[:n+1]...); e != api.OK || !bytes.Equal(out, want) {
			t.Errorf("%d modes: error %d, %x", n+1, e, out)
		}
	}
	for _, n := range []int{1, 15, 17, 33} {
		if out, e := mode.All(some(n), a, b); e != api.ErrArg || len(out) != 0 {
			t.Errorf("%d bytes: error %d, %x", n, e, out)
		}
	}
}

func TestAllOfNoModes(t *testing.T) {
	for _, n := range []int{0, 16, 17, 64} {
		p := some(n)
		out, e := mode.All(p)
		if e != api.OK || !bytes.Equal(out, p) {
			t.Errorf("%d bytes: error %d, %x", n, e, out)
		}
		clear(out[:cap(out)])
		if !bytes.Equal(p, some(n)) {
			t.Errorf("%d bytes: they are handed out themselves", n)
		}
	}
}

func TestArgumentsAreNeitherChangedNorKept(t *testing.T) {
	everyMode(t, func(kind int, back bool, key []byte, start api.Block) {
		store := some(200)
		kept := slices.Clone(store)
		m := made(t, kind, back, store[:len(key)], start)
		want := made(t, kind, back, kept[:len(key)], start)
		list := []mode.Mode{m, m}
		_, out := ran(t, m, store[40:88])
		all, _ := mode.All(store[40:88], list...)
		if !bytes.Equal(store, kept) || !slices.Equal(list, []mode.Mode{want, want}) {
			t.Fatal("an argument is changed")
		}
		once, twice := slices.Clone(out), slices.Clone(all)
		clear(store)
		if m != want || !bytes.Equal(out, once) || !bytes.Equal(all, twice) {
			t.Error("an argument is kept")
		}
		clear(out[:cap(out)])
		if _, again := ran(t, m, kept[40:88]); !bytes.Equal(again, once) || !bytes.Equal(all, twice) {
			t.Error("two results share memory")
		}
	})
}

// keyed is what a mode has of the key that it embeds.
type keyed interface {
	Rounds() int
	Words() []uint32
	Encrypt(api.Block) api.Block
	Decrypt(api.Block) api.Block
}

func TestAModeHasTheMethodsOfItsKey(t *testing.T) {
	everyMode(t, func(kind int, back bool, key []byte, start api.Block) {
		m := made(t, kind, back, key, start)
		k, _ := aes.New(key)
		var got keyed = m
		if m.Key != k || got.Rounds() != k.Rounds() || !slices.Equal(got.Words(), k.Words()) {
			t.Errorf("kind %d, back %t: another key", kind, back)
		}
		if got.Encrypt(start) != k.Encrypt(start) || got.Decrypt(start) != k.Decrypt(start) {
			t.Errorf("kind %d, back %t: another cipher", kind, back)
		}
	})
}
