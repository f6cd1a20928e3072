package token_test

import (
	"bytes"
	"encoding/binary"
	"math"
	"slices"
	"testing"

	"curtilage/api"
	"curtilage/lms"
	"curtilage/token"
)

const private = 1<<32 - 1<<29

// noKinds are numbers of no kind.
var noKinds = []int{math.MinInt, math.MinInt32, -3, -2, -1, 0, 4, 5, 255, 256, 257, 1 << 16, 1 << 31, 1 << 32, 1<<32 + 1, 1<<32 + 3, math.MaxInt}

// some returns n bytes without a short period.
func some(n int) []byte {
	p := make([]byte, n)
	x := uint32(n)*2654435761 + 1
	for i := range p {
		x = x*1664525 + 1013904223
		p[i] = byte(x >> 24)
	}
	return p
}

func digestOf(n int) api.Digest { return api.Digest(some(32 + n)[n:]) }

func chipOf(n int) [16]byte { return [16]byte(some(16 + n)[n:]) }

// written returns the bytes of a body, whether there is such a kind or not.
func written(kind, nonce uint32, chip [16]byte) []byte {
	p := binary.BigEndian.AppendUint32([]byte{0x54, 0x4f, 0x4b, 0x4e}, kind)
	return append(binary.BigEndian.AppendUint32(p, nonce), chip[:]...)
}

func bodyOf(x token.Token) []byte { return written(uint32(x.Kind), x.Nonce, x.Chip) }

// signer signs as many texts as one likes.
type signer struct {
	*lms.Signer
	pub []byte
}

func signerOf(t *testing.T, kind, ots uint32) signer {
	t.Helper()
	s, e := lms.New(kind, ots, [16]byte{byte(kind), byte(ots)}, digestOf(int(ots)))
	if e != api.OK {
		t.Fatalf("types %x and %d: error %d", kind, ots, e)
	}
	return signer{s, s.Public()}
}

// signed returns a body with its signature by leaf 0.
func (s signer) signed(t *testing.T, body []byte) []byte {
	t.Helper()
	sig, e := s.Force(0, digestOf(len(body)), body)
	if e != api.OK {
		t.Fatalf("error %d", e)
	}
	return append(bytes.Clone(body), sig...)
}

func TestTheKinds(t *testing.T) {
	if token.Debug != 1 || token.Back != 2 || token.End != 3 {
		t.Errorf("%d, %d, %d", token.Debug, token.Back, token.End)
	}
}

func TestEveryToken(t *testing.T) {
	for kind := 1; kind <= 3; kind++ {
		for n, nonce := range []uint32{0, 1, 255, 256, 0x01020304, 1 << 31, 1<<32 - 1} {
			for _, chip := range [][16]byte{{}, {15: 1}, chipOf(n), [16]byte(bytes.Repeat([]byte{0xff}, 16))} {
				x := token.Token{Kind: kind, Nonce: nonce, Chip: chip}
				body, e := x.Body()
				if e != api.OK || !bytes.Equal(body, bodyOf(x)) {
					t.Errorf("%v: error %d, body %x", x, e, body)
				}
				if got, e := token.Parse(body); e != api.OK || got != x {
					t.Errorf("%v: error %d, the body is that of %v", x, e, got)
				}
			}
		}
	}
}

func TestBodyOfNoKind(t *testing.T) {
	for _, kind := range noKinds {
		for _, x := range []token.Token{{Kind: kind}, {Kind: kind, Nonce: 7, Chip: chipOf(1)}} {
			if body, e := x.Body(); e != api.ErrArg || len(body) != 0 {
				t.Errorf("%v: error %d, body %x", x, e, body)
			}
		}
	}
}

// refused holds that Check rejects a token with the error.
func refused(t *testing.T, pub []byte, chip [16]byte, nonce uint32, p []byte, want api.Errno) {
	t.Helper()
	if x, e := token.Check(pub, chip, nonce, p); e != want || x != (token.Token{}) {
		t.Errorf("%d bytes: error %d, not %d; %v", len(p), e, want, x)
	}
}

func TestParseOfNoKind(t *testing.T) {
	for _, kind := range []uint32{0, 4, 5, 255, 256, 257, 1 << 16, 1 << 24, 3 << 24, 1 << 31, 1<<31 + 1, 1<<32 - 3, 1<<32 - 1} {
		body := written(kind, 7, chipOf(2))
		if x, e := token.Parse(body); e != api.ErrArg || x != (token.Token{}) {
			t.Errorf("kind %d: error %d, %v", kind, e, x)
		}
		// Such a token isn't one, whatever follows and whoever asks.
		for _, pub := range [][]byte{nil, some(56)} {
			refused(t, pub, chipOf(2), 7, body, api.ErrArg)
			refused(t, pub, chipOf(3), 8, append(body, some(2000)...), api.ErrArg)
		}
	}
}

func TestTextsThatAreNoBody(t *testing.T) {
	good := written(1, 7, chipOf(2))
	bad := written(4, 7, chipOf(2)) // ErrForm comes first
	l := [][]byte{nil, {}, []byte("TOKN"), make([]byte, 28), bytes.Repeat([]byte("TOKN"), 8), some(28)}
	for n := range 80 {
		if n != 28 {
			l = append(l, append(bytes.Clone(good), some(80)...)[:n], append(bytes.Clone(bad), some(80)...)[:n])
		}
	}
	for i := range 4 {
		for _, x := range []byte{1, 0x20, 0x80, 0xff} {
			for _, p := range [][]byte{good, bad} {
				p = bytes.Clone(p)
				p[i] ^= x
				l = append(l, p)
			}
		}
	}
	for _, p := range l {
		if x, e := token.Parse(p); e != api.ErrForm || x != (token.Token{}) {
			t.Errorf("%d bytes, %.4x: error %d, %v", len(p), p, e, x)
		}
	}
}

func TestCheck(t *testing.T) {
	for height := uint32(1); height <= 2; height++ {
		for ots := uint32(1); ots <= 4; ots++ {
			s := signerOf(t, private+height, ots)
			for kind := 1; kind <= 3; kind++ {
				for n, nonce := range []uint32{0, 9, 1<<32 - 1} {
					x := token.Token{Kind: kind, Nonce: nonce, Chip: chipOf(n)}
					got, e := token.Check(s.pub, x.Chip, nonce, s.signed(t, bodyOf(x)))
					if e != api.OK || got != x {
						t.Errorf("%v: error %d, %v", x, e, got)
					}
				}
			}
		}
	}
	s := signerOf(t, private+1, 4)
	x := token.Token{Kind: token.End, Nonce: 3, Chip: chipOf(4)}
	body, _ := x.Body()
	sig, _ := s.Sign(digestOf(5), body)
	if got, e := token.Check(s.pub, x.Chip, 3, slices.Concat(body, sig)); e != api.OK || got != x {
		t.Errorf("error %d, %v", e, got)
	}
}

func TestTokensThatEndEarly(t *testing.T) {
	s := signerOf(t, private+1, 3)
	x := token.Token{Kind: 1, Nonce: 9, Chip: chipOf(1)}
	whole := s.signed(t, bodyOf(x))
	for n := range whole {
		refused(t, s.pub, x.Chip, 9, whole[:n], api.ErrForm)
	}
	for _, n := range []int{1, 32, 5000} {
		refused(t, s.pub, x.Chip, 9, append(bytes.Clone(whole), some(n)...), api.ErrForm)
	}
	for n := range 28 {
		// Too few bytes of anything, by a key that isn't one.
		refused(t, nil, x.Chip, 8, some(28)[:n], api.ErrForm)
		refused(t, nil, x.Chip, 8, written(4, 9, x.Chip)[:n], api.ErrForm)
	}
}

func TestTokensThatAreNotSigned(t *testing.T) {
	s := signerOf(t, private+1, 3)
	x := token.Token{Kind: 2, Nonce: 9, Chip: chipOf(1)}
	whole := s.signed(t, bodyOf(x))
	word := func(i int, v uint32) []byte {
		p := bytes.Clone(whole)
		binary.BigEndian.PutUint32(p[28+i:], v)
		return p
	}
	refused(t, s.pub, x.Chip, 9, word(0, 2), api.ErrForm)
	refused(t, s.pub, x.Chip, 9, word(4, 0), api.ErrType)
	refused(t, s.pub, x.Chip, 9, word(4+2180, 0), api.ErrType)
	refused(t, s.pub, x.Chip, 9, word(0, 1), api.ErrSign)
	refused(t, s.pub, x.Chip, 9, word(8, 1), api.ErrSign)
	refused(t, s.pub, x.Chip, 9, word(len(whole)-32, 1), api.ErrSign)
	for _, y := range []token.Token{
		{Kind: 1, Nonce: 9, Chip: x.Chip},
		{Kind: 3, Nonce: 9, Chip: x.Chip},
		{Kind: 2, Nonce: 8, Chip: x.Chip},
		{Kind: 2, Nonce: 9, Chip: chipOf(2)},
	} {
		// Another token's signature, for the chip and the nonce that it tells.
		refused(t, s.pub, y.Chip, y.Nonce, append(bodyOf(y), whole[28:]...), api.ErrSign)
	}
}

func TestOtherKeys(t *testing.T) {
	s := signerOf(t, private+1, 3)
	x := token.Token{Kind: 2, Nonce: 9, Chip: chipOf(1)}
	whole := s.signed(t, bodyOf(x))
	for _, pub := range [][]byte{nil, {}, s.pub[:55], append(bytes.Clone(s.pub), 0)} {
		refused(t, pub, x.Chip, 9, whole, api.ErrForm)
	}
	refused(t, signerOf(t, private+2, 3).pub, x.Chip, 9, whole, api.ErrType)
	refused(t, signerOf(t, private+1, 2).pub, x.Chip, 9, whole, api.ErrType)
	refused(t, make([]byte, 56), x.Chip, 9, whole, api.ErrType)
	for _, i := range []int{8, 23, 24, 55} {
		pub := bytes.Clone(s.pub)
		pub[i] ^= 1
		refused(t, pub, x.Chip, 9, whole, api.ErrSign)
	}
}

func TestOtherChipsAndNonces(t *testing.T) {
	s := signerOf(t, private+1, 3)
	for kind := 1; kind <= 3; kind++ {
		x := token.Token{Kind: kind, Nonce: 0x01020304, Chip: chipOf(1)}
		whole := s.signed(t, bodyOf(x))
		for i := range 16 {
			chip := x.Chip
			chip[i] ^= 1
			refused(t, s.pub, chip, x.Nonce, whole, api.ErrDenied)
			refused(t, s.pub, chip, x.Nonce+1, whole, api.ErrDenied)
		}
		for i := range 32 {
			refused(t, s.pub, x.Chip, x.Nonce^1<<i, whole, api.ErrDenied)
		}
		refused(t, s.pub, [16]byte{}, x.Nonce, whole, api.ErrDenied)
		refused(t, s.pub, x.Chip, 0, whole, api.ErrDenied)
	}
}

func TestOrderOfErrorsOfCheck(t *testing.T) {
	s := signerOf(t, private+1, 3)
	short := s.pub[:55]
	other := signerOf(t, private+1, 2).pub
	wrong := bytes.Clone(s.pub)
	wrong[30] ^= 1
	good := s.signed(t, written(1, 9, chipOf(1)))
	none := s.signed(t, written(4, 9, chipOf(1)))
	begin := s.signed(t, append([]byte("TOKM"), written(4, 9, chipOf(1))[4:]...))
	for _, l := range []struct {
		pub, p []byte
		want   api.Errno
	}{
		{other, begin[:27], api.ErrForm},
		{other, begin, api.ErrForm},
		{s.pub, begin, api.ErrForm},
		{short, none, api.ErrArg},
		{other, none, api.ErrArg},
		{s.pub, none, api.ErrArg},
		{short, good, api.ErrForm},
		{other, good[:len(good)-1], api.ErrForm},
		{wrong, good[:28], api.ErrForm},
		{other, good, api.ErrType},
		{wrong, good, api.ErrSign},
		{s.pub, good, api.ErrDenied},
	} {
		refused(t, l.pub, chipOf(2), 8, l.p, l.want)
		refused(t, l.pub, chipOf(2), 9, l.p, l.want)
		refused(t, l.pub, chipOf(1), 8, l.p, l.want)
	}
}

func TestAllows(t *testing.T) {
	allowed := map[[2]int]int{
		{api.Dev, token.Debug}: 1, {api.Prod, token.Debug}: 1, {api.RMA, token.Debug}: 1,
		{api.Dev, token.Back}: 1, {api.Prod, token.Back}: 1,
		{api.Dev, token.End}: 1, {api.Prod, token.End}: 1, {api.RMA, token.End}: 1,
	}
	numbers := slices.Concat([]int{0, 1, 2, 3, 4, 5, 6, 7, 1<<32 + 2}, noKinds)
	for _, life := range numbers {
		for _, kind := range numbers {
			if got, want := token.Allows(life, kind), allowed[[2]int{life, kind}] == 1; got != want {
				t.Errorf("life %d, kind %d: %t", life, kind, got)
			}
		}
	}
	if !token.Allows(api.Prod, token.Back) || token.Allows(api.RMA, token.Back) {
		t.Error("the examples")
	}
}

func TestArgumentsAndResults(t *testing.T) {
	s := signerOf(t, private+1, 3)
	x := token.Token{Kind: 3, Nonce: 9, Chip: chipOf(1)}
	whole := append(s.signed(t, bodyOf(x)), some(100)...)
	pub := append(bytes.Clone(s.pub), some(100)...)
	kept, keptPub := bytes.Clone(whole), bytes.Clone(pub)
	got, e := token.Check(pub[:56], x.Chip, 9, whole[:len(whole)-100])
	parsed, f := token.Parse(whole[:28])
	if e != api.OK || f != api.OK || !bytes.Equal(whole, kept) || !bytes.Equal(pub, keptPub) {
		t.Fatalf("errors %d and %d", e, f)
	}
	clear(whole)
	clear(pub)
	if got != x || parsed != x {
		t.Errorf("%v and %v", got, parsed)
	}
	body, _ := x.Body()
	clear(body[:cap(body)])
	if body, _ := x.Body(); !bytes.Equal(body, bodyOf(x)) {
		t.Error("a body shares its memory with another one")
	}
}
