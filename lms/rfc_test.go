package lms_test

import (
	"bytes"
	"encoding/hex"
	"testing"

	"curtilage/api"
	"curtilage/lms"
)

const rfcMessage = "The enumeration in the Constitution, of certain rights, " +
	"shall not be construed to deny or disparage others retained by the people.\n"

// rfc are the private keys of the RFC's test case 2, the upper tree's and the
// lower one's, with their roots; of the signature of each, its leaf, its C and
// its first value.
var rfc = []struct {
	t, ots         uint32
	id, seed, root string
	q              uint32
	c, first       string
}{
	{
		6, 3, "d08fabd4a2091ff0a8cb4ed834e74534",
		"558b8966c48ae9cb898b423c83443aae014a72f1b1ab5cc85cf1d892903b5439",
		"32a58885cd9ba0431235466bff9651c6c92124404d45fa53cf161c28f1ad5a8e", 3,
		"3d46bee8660f8f215d3f96408a7a64cf1c4da02b63a55f62c666ef5707a914ce",
		"0674e8cb7a55f0c48d484f31f3aa4af9719a74f22cf823b94431d01c926e2a76",
	},
	{
		5, 4, "215f83b7ccb9acbcd08db97b0d04dc2b",
		"a1c4696e2608035a886100d05cd99945eb3370731884a8235e2fb3d4d71f2547",
		"a1cd035833e0e90059603f26e07ad2aad152338e7a5e5984bcd5f7bb4eba40b7", 4,
		"0eb1ed54a2460d512388cad533138d240534e97b1e82d33bd927d201dfc24ebb",
		"11b3649023696f85150b189e50c00e98850ac343a77b3638319c347d7310269d",
	},
}

func bytesOf(t *testing.T, text string) []byte {
	t.Helper()
	p, err := hex.DecodeString(text)
	if err != nil {
		t.Fatal(err)
	}
	return p
}

// TestTheRFCsSignatures signs as the RFC's test case 2 does: the upper tree
// signs the lower one's public key, which signs the message.
func TestTheRFCsSignatures(t *testing.T) {
	msg := []byte(rfcMessage)
	for i := len(rfc) - 1; i >= 0; i-- {
		x := rfc[i]
		s := tree{x.t, x.ots, [16]byte(bytesOf(t, x.id)), api.Digest(bytesOf(t, x.seed))}.signer(t)
		if pub := s.Public(); !bytes.Equal(pub[24:], bytesOf(t, x.root)) {
			t.Fatalf("type %d: %x", x.t, pub)
		}
		for q := range x.q {
			signed(t, s, digestOf(int(q)), some(int(q)))
		}
		sig := signed(t, s, api.Digest(bytesOf(t, x.c)), msg)
		want := append([]byte{0, 0, 0, byte(x.q), 0, 0, 0, byte(x.ots)}, bytesOf(t, x.c+x.first)...)
		if !bytes.HasPrefix(sig, want) {
			t.Errorf("type %d: %x", x.t, sig[:min(len(sig), len(want))])
		}
		if e := lms.Verify(s.Public(), msg, sig); e != api.OK {
			t.Errorf("type %d: error %d", x.t, e)
		}
		msg = s.Public()
	}
}

// TestWholeSignatures holds all bytes of a signature, by their hash, against
// those that another program (Bouncy Castle 1.72) makes of the same keys.
func TestWholeSignatures(t *testing.T) {
	for _, x := range []struct {
		ots          uint32
		root, c, sum string
	}{
		{
			1, "8fd8c5f488b7e020f28771e3c1d25b44eb986334e09618a80fed033eb68c0c17",
			"6bb4f6c5109a7c66d2e0ccc76398a0023988ee367e683631715b048236e6d87d",
			"5038c322cf04e2b27790e0d6632a8a46ad57e512cd8064ca41a316ee6209294d",
		},
		{
			2, "f8209f2b9dc6bc481b0fee88f8e015dc54a78ad0cb7806164945c0200d4458a6",
			"7f53d3ab13c5b05f3e8a0149c77ade780851400609797a747ba2a177e1159c0e",
			"d2fbd215634d6637ba8ed854d32ae39bc9746c6f9f23ba2bf464243c16a4eea9",
		},
		{
			3, "93012edde2fe071e57a20a4bde69a4920b97a45bf40c2ce843c2224813fcaf10",
			"04986fecee29d2a8c5570d85299a8acd9d49e9909524e4b65109d4dfb0a44c10",
			"45455fca91c770d2d3eaa31151e8f502c0dd80925a2ddd798ddfe9d7dd6325e1",
		},
		{
			4, "b3a6f2199a7e1932cd4248460d2478f254a3b5582acf2b6d02dd9080d1d39ddf",
			"080bfe594bc4b44e6d657a3745f684a1eed18ebf52acfb82bcf81db4fa5f8cad",
			"fd2c3f87660ba0b463c997cf15c22f74eaa7c8000a644b31d65cc8ca8166815b",
		},
	} {
		key := tree{t: 5, ots: x.ots}
		for i := range key.id {
			key.id[i] = byte(7*i + int(x.ots) + 5)
		}
		for i := range key.seed {
			key.seed[i] = byte(11*i + 5*int(x.ots))
		}
		s, msg := key.signer(t), []byte("message 17 of 5,"+string('0'+rune(x.ots)))
		sum := hashed(forced(t, s, 17, api.Digest(bytesOf(t, x.c)), msg))
		if !bytes.Equal(s.Public(), key.pub(api.Digest(bytesOf(t, x.root)))) || !bytes.Equal(sum[:], bytesOf(t, x.sum)) {
			t.Errorf("type %d: the key %x, the signature's hash %x", x.ots, s.Public(), sum)
		}
	}
}
