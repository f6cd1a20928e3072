package manifest_test

import (
	"bytes"
	"encoding/binary"
	"encoding/hex"
	"math"
	"slices"
	"testing"

	"curtilage/api"
	"curtilage/manifest"
)

func TestTheExample(t *testing.T) {
	body, e := manifest.Of(3, 0, some(8)).Body()
	if e != api.OK || hex.EncodeToString(body[:8]) != "4355525400000003" {
		t.Errorf("error %d, body %x", e, body)
	}
}

// whole holds that there is such a manifest, and what its body is.
func whole(t *testing.T, m manifest.Manifest) {
	t.Helper()
	body, e := m.Body()
	if e != api.OK || !bytes.Equal(body, bodyOf(m)) {
		t.Fatalf("%v: error %d, body %x", m, e, body)
	}
	if got, e := manifest.Parse(body); e != api.OK || got != m {
		t.Fatalf("%v: error %d, the body is that of %v", m, e, got)
	}
}

func TestEveryManifest(t *testing.T) {
	for size := 4; size <= 2048; size += 4 {
		for entry := 0; entry < size; entry += 4 {
			whole(t, manifest.Manifest{Version: (size + entry) / 4 % 256, Size: size, Entry: entry, Digest: digestOf(entry % 97)})
		}
	}
	for version := range 256 {
		whole(t, manifest.Manifest{Version: version, Size: 4})
		whole(t, manifest.Manifest{Version: version, Size: 2048, Entry: 2044, Digest: digestOf(version)})
	}
}

// impossible returns manifests that there can't be.
func impossible() []manifest.Manifest {
	d := digestOf(1)
	var l []manifest.Manifest
	for _, n := range []int{math.MinInt, math.MinInt32, -256, -255, -1, 256, 257, 511, 1 << 16, math.MaxInt32, 1 << 32, 1<<32 + 3, math.MaxInt} {
		l = append(l, manifest.Manifest{Version: n, Size: 8, Entry: 4, Digest: d})
	}
	for _, n := range []int{math.MinInt, math.MinInt32, -2048, -8, -4, -1, 0, 1, 2, 3, 5, 6, 7, 9, 10, 2045, 2046, 2047, 2049, 2050, 2051, 2052, 4096, 1 << 16, 1 << 24, 1 << 31, 1<<32 + 8, math.MaxInt, math.MaxInt - 3} {
		l = append(l, manifest.Manifest{Version: 3, Size: n, Digest: d}, manifest.Manifest{Version: 3, Size: n, Entry: n - 4, Digest: d})
	}
	for _, n := range []int{math.MinInt, math.MinInt32, -64, -8, -4, -3, -1, 1, 2, 3, 5, 6, 7, 61, 62, 63, 64, 65, 66, 68, 2048, 1 << 31, 1 << 32, 1<<32 + 4, math.MaxInt, math.MaxInt - 3} {
		l = append(l, manifest.Manifest{Version: 3, Size: 64, Entry: n, Digest: d})
	}
	return append(l,
		manifest.Manifest{},
		manifest.Manifest{Version: 3, Size: 4, Entry: 4, Digest: d},
		manifest.Manifest{Version: 3, Size: 2048, Entry: 2048, Digest: d},
		manifest.Manifest{Version: 256, Size: 2052, Entry: 2052, Digest: d},
	)
}

func TestManifestsThatThereAreNot(t *testing.T) {
	for _, m := range impossible() {
		if body, e := m.Body(); e != api.ErrArg || len(body) != 0 {
			t.Errorf("%v: error %d, body %x", m, e, body)
		}
		payload := some(max(0, min(m.Size, 5000)))
		for _, sig := range [][]byte{nil, some(1), some(65536)} {
			if image, e := manifest.Image(m, sig, payload); e != api.ErrArg || len(image) != 0 {
				t.Errorf("%v: error %d, image %x", m, e, image)
			}
		}
	}
}

func TestParseOfManifestsThatThereAreNot(t *testing.T) {
	numbers := []uint32{0, 1, 2, 3, 4, 5, 8, 60, 63, 64, 65, 68, 252, 255, 256, 257, 2044, 2048, 2049, 2052, 1 << 16, 1<<16 + 4, 1 << 24, 4 << 24, 1<<31 - 4, 1 << 31, 1<<31 + 4, 1<<32 - 4, 1<<32 - 1}
	faults := 0
	for _, version := range numbers {
		for _, size := range numbers {
			for _, entry := range numbers {
				body := written(version, size, entry, digestOf(2))
				want, wantE := parsed(body)
				m, e := manifest.Parse(body)
				if e != wantE || m != want {
					t.Errorf("%d, %d, %d: error %d, %v", version, size, entry, e, m)
				}
				if e != api.OK {
					faults++
				}
			}
		}
	}
	if faults < 20000 {
		t.Errorf("%d faults", faults)
	}
}

// malformed returns texts that are no body: of another length, or with another
// beginning, or both.
func malformed() [][]byte {
	good := written(3, 8, 4, digestOf(3))
	bad := written(256, 3, 5, digestOf(3)) // ErrForm comes first
	l := [][]byte{nil, {}, []byte("CURT"), make([]byte, 48), bytes.Repeat([]byte("CURT"), 13), some(48)}
	for n := range 100 {
		if n != 48 {
			long := append(bytes.Clone(good), some(100)...)
			l = append(l, long[:n], append(bytes.Clone(bad), some(100)...)[:n])
		}
	}
	for i := range 4 {
		for _, x := range []byte{1, 0x20, 0x80, 0xff} {
			for _, p := range [][]byte{good, bad} {
				p = bytes.Clone(p)
				p[i] ^= x
				l = append(l, p)
			}
		}
	}
	return l
}

func TestTextsThatAreNoBody(t *testing.T) {
	for _, p := range malformed() {
		if m, e := manifest.Parse(p); e != api.ErrForm || m != (manifest.Manifest{}) {
			t.Errorf("%d bytes, %.4x: error %d, %v", len(p), p, e, m)
		}
	}
}

func TestOf(t *testing.T) {
	for n := range 300 {
		p := some(n)
		want := manifest.Manifest{Version: n, Size: n, Entry: n - 4, Digest: hashed(p)}
		if m := manifest.Of(n, n-4, append(p, some(40)...)[:n]); m != want {
			t.Errorf("%d bytes: %v", n, m)
		}
	}
	for _, n := range []int{math.MinInt, -1, 256, math.MaxInt} {
		// There is no such manifest, which its body tells.
		want := manifest.Manifest{Version: n, Entry: n, Digest: hashed(nil)}
		if m := manifest.Of(n, n, nil); m != want {
			t.Errorf("%v", m)
		}
	}
}

func TestImage(t *testing.T) {
	for _, size := range []int{4, 8, 252, 256, 2044, 2048} {
		m := manifest.Of(size%256, size-4, some(size))
		for _, long := range []int{0, 1, 2, 255, 256, 257, 1292, 32767, 32768, 65280, 65534, 65535} {
			image, e := manifest.Image(m, some(long), some(size))
			if e != api.OK || !bytes.Equal(image, joined(bodyOf(m), some(long), some(size))) {
				t.Errorf("%d bytes behind %d: error %d, %d bytes", size, long, e, len(image))
			}
			got, sig, payload, e := manifest.Read(image)
			if e != api.OK || got != m || !bytes.Equal(sig, some(long)) || !bytes.Equal(payload, some(size)) {
				t.Errorf("%d bytes behind %d: error %d, %v, %d and %d bytes", size, long, e, got, len(sig), len(payload))
			}
		}
	}
}

func TestImagesThatThereAreNot(t *testing.T) {
	m := manifest.Of(1, 0, some(64))
	for _, long := range []int{65536, 65537, 65536 + 1292, 2 * 65536} {
		if image, e := manifest.Image(m, some(long), some(64)); e != api.ErrArg || len(image) != 0 {
			t.Errorf("a signature of %d bytes: error %d, %d bytes", long, e, len(image))
		}
	}
	for _, size := range []int{0, 1, 4, 60, 63, 65, 68, 128, 2048, 65600} {
		if image, e := manifest.Image(m, some(5), some(size)); e != api.ErrArg || len(image) != 0 {
			t.Errorf("a payload of %d bytes: error %d, %d bytes", size, e, len(image))
		}
	}
}

func TestImageDoesNotAskForTheDigest(t *testing.T) {
	m := manifest.Manifest{Version: 2, Size: 8, Digest: digestOf(5)}
	image, e := manifest.Image(m, nil, some(8))
	if e != api.OK || !bytes.Equal(image, joined(bodyOf(m), nil, some(8))) {
		t.Errorf("error %d, %x", e, image)
	}
	if got, sig, payload, e := manifest.Read(image); e != api.OK || got != m || len(sig) != 0 || !bytes.Equal(payload, some(8)) {
		t.Errorf("error %d, %v, %x, %x", e, got, sig, payload)
	}
}

// unread holds that Read and Check reject an image, before all else.
func unread(t *testing.T, image []byte, want api.Errno) {
	t.Helper()
	m, sig, payload, e := manifest.Read(image)
	if e != want || m != (manifest.Manifest{}) || len(sig) != 0 || len(payload) != 0 {
		t.Errorf("%d bytes: error %d, %v, %d and %d bytes", len(image), e, m, len(sig), len(payload))
	}
	for _, pub := range [][]byte{nil, some(56)} {
		m, payload, e := manifest.Check(pub, 256, image)
		if e != want || m != (manifest.Manifest{}) || len(payload) != 0 {
			t.Errorf("%d bytes, checked: error %d, %v, %d bytes", len(image), e, m, len(payload))
		}
	}
}

func TestImagesThatEndEarly(t *testing.T) {
	for _, long := range []int{0, 1, 300} {
		image := joined(bodyOf(manifest.Of(3, 4, some(12))), some(long), some(12))
		for n := range image {
			unread(t, image[:n], api.ErrForm)
		}
		if _, _, _, e := manifest.Read(image); e != api.OK {
			t.Errorf("a signature of %d bytes: error %d", long, e)
		}
	}
	image := joined(bodyOf(manifest.Of(3, 0, some(2048))), some(65535), some(2048))
	for _, n := range []int{50, 50 + 2048, 65535, 65585, 65586, len(image) - 1} {
		unread(t, image[:n], api.ErrForm)
	}
}

func TestOrderOfErrorsOfRead(t *testing.T) {
	// Fewer than 50 bytes: whatever they are.
	for _, n := range []int{0, 3, 4, 47, 48, 49} {
		unread(t, append(written(256, 3, 1, digestOf(4)), 0xff, 0xff)[:n], api.ErrForm)
		unread(t, some(50)[:n], api.ErrForm)
	}
	// No such manifest, whether the rest is complete or not.
	for _, rest := range []int{0, 1, 4096} {
		unread(t, append(append(written(256, 4, 0, digestOf(4)), 0, 9), some(rest)...), api.ErrArg)
		unread(t, append(append(written(3, 2052, 0, digestOf(4)), 0xff, 0xff), some(rest)...), api.ErrArg)
		unread(t, append(append(written(3, 4, 4, digestOf(4)), 0, 0), some(rest)...), api.ErrArg)
		unread(t, append([]byte("CURU"), append(written(256, 4, 0, digestOf(4))[4:], some(rest+2)...)...), api.ErrForm)
		unread(t, append([]byte("CURU"), append(written(3, 4, 0, digestOf(4))[4:], some(rest+2)...)...), api.ErrForm)
	}
	// Only the first 48 bytes are the body: Parse would have none of 50.
	unread(t, append(written(3, 4, 0, digestOf(4)), 0, 0), api.ErrForm)
	unread(t, append(written(3, 4, 0, digestOf(4)), 0, 0, 1, 2, 3), api.ErrForm)
}

func TestBytesBehindAnImage(t *testing.T) {
	s := signerOf(t, 1<<32-1<<29+1, 3)
	m := manifest.Of(7, 4, some(64))
	image := s.image(t, m, some(64))
	for _, n := range []int{1, 2, 64, 1000, 4096 - len(image), 70000} {
		for _, more := range [][]byte{make([]byte, n), bytes.Repeat([]byte{0xff}, n), some(n)} {
			flash := append(bytes.Clone(image), more...)
			got, sig, payload, e := manifest.Read(flash)
			if e != api.OK || got != m || len(sig) != len(image)-114 || !bytes.Equal(payload, some(64)) {
				t.Errorf("%d more bytes: error %d, %v, %d bytes, %x", n, e, got, len(sig), payload)
			}
			got, payload, e = manifest.Check(s.pub, 7, flash)
			if e != api.OK || got != m || !bytes.Equal(payload, some(64)) {
				t.Errorf("%d more bytes, checked: error %d, %v, %x", n, e, got, payload)
			}
		}
	}
}

func TestReadOfAnyBytes(t *testing.T) {
	image := joined(bodyOf(manifest.Of(3, 4, some(16))), some(20), some(16))
	for i := range image {
		for x := 1; x < 256; x += 2 {
			p := append(bytes.Clone(image), some(x%50)...)
			p[i] ^= byte(x)
			m, sig, payload, e := manifest.Read(p)
			wantM, wantSig, wantPayload, wantE := read(p)
			if e != wantE || m != wantM || !bytes.Equal(sig, wantSig) || !bytes.Equal(payload, wantPayload) {
				t.Errorf("byte %d, by %x: error %d, %v, %x, %x", i, x, e, m, sig, payload)
			}
		}
	}
	for n := range 3000 {
		unread(t, some(n), api.ErrForm)
	}
}

// checked holds that Check returns the manifest and the payload.
func checked(t *testing.T, s signer, least int, image []byte, want manifest.Manifest, payload []byte) {
	t.Helper()
	m, got, e := manifest.Check(s.pub, least, image)
	if e != api.OK || m != want || !bytes.Equal(got, payload) {
		t.Errorf("least %d, %v: error %d, %v, %d bytes", least, want, e, m, len(got))
	}
}

// refused holds that Check rejects an image with the error.
func refused(t *testing.T, pub []byte, least int, image []byte, want api.Errno) {
	t.Helper()
	if m, payload, e := manifest.Check(pub, least, image); e != want || m != (manifest.Manifest{}) || len(payload) != 0 {
		t.Errorf("least %d: error %d, not %d; %v, %d bytes", least, e, want, m, len(payload))
	}
}

func TestCheck(t *testing.T) {
	for height := uint32(1); height <= 2; height++ {
		for ots := uint32(1); ots <= 4; ots++ {
			s := signerOf(t, 1<<32-1<<29+height, ots)
			for _, size := range []int{4, 256, 2048} {
				m := manifest.Of(size%256+3, size-4, some(size))
				checked(t, s, 0, s.image(t, m, some(size)), m, some(size))
			}
			m := manifest.Of(9, 0, some(64))
			body, _ := m.Body()
			sig, e := s.Sign(digestOf(8), body)
			image, f := manifest.Image(m, sig, some(64))
			if e != api.OK || f != api.OK {
				t.Fatalf("errors %d and %d", e, f)
			}
			checked(t, s, 9, image, m, some(64))
		}
	}
}

func TestVersionsThatAreTooOld(t *testing.T) {
	s := signerOf(t, 1<<32-1<<29+1, 3)
	for _, version := range []int{0, 1, 3, 127, 128, 254, 255} {
		m := manifest.Of(version, 0, some(8))
		image := s.image(t, m, some(8))
		for _, least := range []int{math.MinInt, -256, -1, 0, version - 1, version} {
			if least <= version {
				checked(t, s, least, image, m, some(8))
			}
		}
		for _, least := range []int{version + 1, version + 256, 256, 1 << 32, math.MaxInt} {
			refused(t, s.pub, least, image, api.ErrOld)
		}
	}
}

func TestImagesThatAreNotSigned(t *testing.T) {
	s := signerOf(t, 1<<32-1<<29+1, 3)
	m := manifest.Of(5, 0, some(8))
	image := s.image(t, m, some(8))
	sig := image[50 : len(image)-8]
	long := func(n int) []byte { return joined(bodyOf(m), append(bytes.Clone(sig), some(9)...)[:n], some(8)) }
	for _, n := range []int{0, 1, 4, 7, 8, len(sig) - 1, len(sig) + 1, len(sig) + 9} {
		refused(t, s.pub, 0, long(n), api.ErrForm)
	}
	word := func(i int, v uint32) []byte {
		p := bytes.Clone(image)
		binary.BigEndian.PutUint32(p[50+i:], v)
		return p
	}
	refused(t, s.pub, 0, word(0, 2), api.ErrForm)
	refused(t, s.pub, 0, word(4, 0), api.ErrType)
	refused(t, s.pub, 0, word(4+2180, 0), api.ErrType)
	refused(t, s.pub, 0, word(0, 1), api.ErrSign)
	refused(t, s.pub, 0, word(8, 1), api.ErrSign)
	refused(t, s.pub, 0, word(len(sig)-4, 1), api.ErrSign)
	refused(t, s.pub, 0, joined(bodyOf(m), s.sign(t, some(48)), some(8)), api.ErrSign)
}

func TestOtherKeys(t *testing.T) {
	s := signerOf(t, 1<<32-1<<29+1, 3)
	image := s.image(t, manifest.Of(5, 0, some(8)), some(8))
	for _, pub := range [][]byte{nil, {}, s.pub[:55], append(bytes.Clone(s.pub), 0)} {
		refused(t, pub, 0, image, api.ErrForm)
	}
	refused(t, signerOf(t, 1<<32-1<<29+2, 3).pub, 0, image, api.ErrType)
	refused(t, signerOf(t, 1<<32-1<<29+1, 2).pub, 0, image, api.ErrType)
	refused(t, make([]byte, 56), 0, image, api.ErrType)
	for _, i := range []int{8, 23, 24, 55} {
		pub := bytes.Clone(s.pub)
		pub[i] ^= 1
		refused(t, pub, 0, image, api.ErrSign)
	}
}

// Whatever of the body is changed, its signature is no longer one; the length
// of the signature and the payload are not signed, but the digest is.
func TestEveryByteCounts(t *testing.T) {
	s := signerOf(t, 1<<32-1<<29+1, 3)
	image := s.image(t, manifest.Of(5, 4, some(32)), some(32))
	wants := []api.Errno{api.ErrForm, api.ErrArg, api.ErrSign, api.ErrType, api.ErrDigest}
	for i := range image {
		p := bytes.Clone(image)
		p[i] ^= 4
		_, payload, e := manifest.Check(s.pub, 0, p)
		switch {
		case !slices.Contains(wants, e) || len(payload) != 0:
			t.Fatalf("byte %d: error %d", i, e)
		case i < 4 && e != api.ErrForm, i >= 16 && i < 48 && e != api.ErrSign, i >= len(p)-32 && e != api.ErrDigest:
			t.Fatalf("byte %d: error %d", i, e)
		}
	}
	for _, version := range []byte{4, 6} { // such manifests there are
		p := bytes.Clone(image)
		p[7] = version
		refused(t, s.pub, 0, p, api.ErrSign)
	}
}

func TestPayloadsWithAnotherDigest(t *testing.T) {
	s := signerOf(t, 1<<32-1<<29+1, 3)
	m := manifest.Of(5, 0, some(2048))
	for i := range 2048 {
		p := some(2048)
		p[i] ^= 0x80
		if i%128 == 127 {
			refused(t, s.pub, 5, s.image(t, m, p), api.ErrDigest)
		}
	}
	for i := range m.Digest {
		other := m
		other.Digest[i] ^= 1
		refused(t, s.pub, 5, s.image(t, other, some(2048)), api.ErrDigest)
	}
	// A signed body with the digest of more or fewer bytes than it tells.
	for _, n := range []int{0, 4, 2044, 2052} {
		other := m
		other.Digest = hashed(some(2052)[:n])
		refused(t, s.pub, 5, append(s.image(t, other, some(2048)), some(4)...), api.ErrDigest)
	}
}

func TestOrderOfErrorsOfCheck(t *testing.T) {
	s := signerOf(t, 1<<32-1<<29+1, 3)
	short := s.pub[:55]
	other := signerOf(t, 1<<32-1<<29+1, 2).pub
	wrong := bytes.Clone(s.pub)
	wrong[30] ^= 1
	m := manifest.Manifest{Version: 5, Size: 8, Digest: digestOf(6)}
	image := s.image(t, m, some(8)) // signed, but with another digest
	big := m
	big.Version = 256
	for _, l := range []struct {
		pub, image []byte
		least      int
		want       api.Errno
	}{
		{short, image[:49], 6, api.ErrForm},
		{short, s.image(t, big, some(8)), 6, api.ErrArg},
		{other, s.image(t, big, some(8)), 6, api.ErrArg},
		{wrong, image[:len(image)-1], 6, api.ErrForm},
		{other, image[:len(image)-1], 6, api.ErrForm},
		{short, image, 6, api.ErrForm},
		{other, image, 6, api.ErrType},
		{wrong, image, 6, api.ErrSign},
		{s.pub, image, 6, api.ErrOld},
		{s.pub, image, 5, api.ErrDigest},
	} {
		refused(t, l.pub, l.least, l.image, l.want)
	}
}

func TestArgumentsAreNeitherChangedNorKept(t *testing.T) {
	s := signerOf(t, 1<<32-1<<29+1, 3)
	m := manifest.Of(5, 4, some(64))
	sig := s.sign(t, bodyOf(m))
	store := slices.Concat(sig, some(64), s.pub, bytes.Repeat([]byte{7}, 4096))
	kept := bytes.Clone(store)
	n := len(sig)
	image, e := manifest.Image(m, store[:n], store[n:n+64])
	if e != api.OK || !bytes.Equal(store, kept) {
		t.Fatalf("error %d", e)
	}
	clear(store[:n+64])
	if !bytes.Equal(image, joined(bodyOf(m), sig, some(64))) {
		t.Error("an image hangs on its arguments")
	}

	flash := append(bytes.Clone(image), some(5000)...)
	kept = bytes.Clone(flash)
	parsed, e1 := manifest.Parse(flash[:48])
	got, gotSig, gotPayload, e2 := manifest.Read(flash[:len(image)])
	mine, payload, e3 := manifest.Check(store[n+64:n+120], 5, flash[:len(image)])
	if e1 != api.OK || e2 != api.OK || e3 != api.OK || !bytes.Equal(flash, kept) {
		t.Fatalf("errors %d, %d and %d", e1, e2, e3)
	}
	clear(flash)
	clear(store)
	if parsed != m || got != m || mine != m || !bytes.Equal(gotSig, sig) || !bytes.Equal(gotPayload, some(64)) || !bytes.Equal(payload, some(64)) {
		t.Error("what was read hangs on the image")
	}
}

// fill overwrites p and its spare capacity.
func fill(p []byte) {
	p = p[:cap(p)]
	for i := range p {
		p[i] = 0xee
	}
}

func TestResultsAreNewMemory(t *testing.T) {
	m := manifest.Of(5, 4, some(64))
	body, _ := m.Body()
	fill(body)
	whole(t, m)
	image, _ := manifest.Image(m, some(40), some(64))
	fill(image)
	image, _ = manifest.Image(m, some(40), some(64))
	for range 2 {
		_, sig, payload, e := manifest.Read(image)
		if e != api.OK || !bytes.Equal(payload, some(64)) {
			t.Fatalf("error %d, payload %x", e, payload)
		}
		fill(sig)
		if !bytes.Equal(payload, some(64)) {
			t.Fatal("a payload shares its memory with the signature")
		}
		fill(payload)
	}
	if !bytes.Equal(image, joined(bodyOf(m), some(40), some(64))) {
		t.Error("what was read shares its memory with the image")
	}
	s := signerOf(t, 1<<32-1<<29+1, 3)
	image = s.image(t, m, some(64))
	_, payload, _ := manifest.Check(s.pub, 5, image)
	fill(payload)
	checked(t, s, 5, image, m, some(64))
}
