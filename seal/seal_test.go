package seal_test

import (
	"bytes"
	"encoding/hex"
	"testing"

	"jalousie/api"
	"jalousie/hash"
	. "jalousie/seal"
)

func run(n, step, from int) []byte {
	b := make([]byte, n)
	for i := range b {
		b[i] = byte(i*step + from)
	}
	return b
}

func TestKnownSeal(t *testing.T) {
	text := "Ladies and Gentlemen of the class of '99: If I could offer you only one tip for the future, sunscreen would be it."
	nonce, _ := hex.DecodeString("070000004041424344454647")
	ad, _ := hex.DecodeString("50515253c0c1c2c3c4c5c6c7")
	b := Seal(api.Hash(run(32, 1, 0x80)), [12]byte(nonce), []byte(text), ad)
	want := "d31a8d34648e60db7b86afbc53ef7ec2a4aded51296e08fea9e2b5a736ee62d63dbea45e8ca9671282fafb69da92728b1a71de0a9e060b2905d6a5b67ecd3b3692ddbd7f2d778b8c9803aee328091b58fab324e4fad675945585808b4831d7bc3ff4def08e4b7a9de576d26586cec64b61161ae10b594f09e26a7e902ecbd0600691"
	if hex.EncodeToString(b) != want {
		t.Errorf("%x", b)
	}
}

func TestSealsOfManyLengths(t *testing.T) {
	key, nonce := api.Hash(run(32, 5, 1)), [12]byte(run(12, 9, 2))
	var all []byte
	for i := range 200 {
		text, ad := run(i, 7, i), run((i*5)%67, 3, i)
		b := Seal(key, nonce, text, ad)
		all = append(all, b...)
		if back, e := Open(key, nonce, b, ad); e != api.OK || !bytes.Equal(back, text) || len(b) != i+16 {
			t.Error(i, e)
		}
	}
	if h := hash.Sum(all); hex.EncodeToString(h[:]) != "5f1ba24e53c1165615d14251504e16cbfe22a6acc0053679f6fb6426b584e973" {
		t.Errorf("%x", h)
	}
}

func TestOpenOfWhatIsNotSealed(t *testing.T) {
	key, nonce, ad := api.Hash{1}, [12]byte{2}, []byte("ad")
	b := Seal(key, nonce, []byte("text"), ad)
	for n := range 16 {
		if text, e := Open(key, nonce, b[:n], ad); e != api.ErrForm || len(text) != 0 {
			t.Error(n, e)
		}
	}
	refused := func(what string, key api.Hash, nonce [12]byte, b, ad []byte) {
		t.Helper()
		if text, e := Open(key, nonce, b, ad); e != api.ErrSeal || len(text) != 0 {
			t.Error(what, e)
		}
	}
	for i := range len(b) * 8 {
		turned := bytes.Clone(b)
		turned[i/8] ^= 1 << (i % 8)
		refused("a bit", key, nonce, turned, ad)
	}
	refused("short", key, nonce, b[:len(b)-1], ad)
	refused("long", key, nonce, append(bytes.Clone(b), 0), ad)
	refused("only a code", key, nonce, make([]byte, 16), ad)
	refused("key", api.Hash{3}, nonce, b, ad)
	refused("nonce", key, [12]byte{3}, b, ad)
	refused("ad", key, nonce, b, []byte("ae"))
	refused("no ad", key, nonce, b, nil)
	refused("a longer ad", key, nonce, b, []byte("ad\x00"))
}

func TestNoText(t *testing.T) {
	b := Seal(api.Hash{1}, [12]byte{}, nil, nil)
	if text, e := Open(api.Hash{1}, [12]byte{}, b, []byte{}); e != api.OK || len(text) != 0 || len(b) != 16 {
		t.Error(e, b)
	}
}

func TestNonce(t *testing.T) {
	for _, c := range []struct {
		writer int
		seq    uint64
		want   [12]byte
	}{
		{0, 0, [12]byte{}},
		{1, 2, [12]byte{3: 1, 11: 2}},
		{0x01020304, 0x05060708090a0b0c, [12]byte{1, 2, 3, 4, 5, 6, 7, 8, 9, 10, 11, 12}},
		{-1, 1<<64 - 1, [12]byte{255, 255, 255, 255, 255, 255, 255, 255, 255, 255, 255, 255}},
		{1 << 32, 0, [12]byte{}},
		{-1<<63 + 5, 1 << 63, [12]byte{3: 5, 4: 128}},
	} {
		if n := Nonce(c.writer, c.seq); n != c.want {
			t.Error(c.writer, c.seq, n)
		}
	}
}

func TestWhatIsHandedInIsLeft(t *testing.T) {
	room := run(100, 1, 1)
	text, ad := room[:20:100], room[40:50:100]
	b := Seal(api.Hash{}, [12]byte{}, text, ad)
	wide := append(make([]byte, 0, 100), b...)
	if _, e := Open(api.Hash{}, [12]byte{}, wide, ad); e != api.OK {
		t.Error(e)
	}
	if !bytes.Equal(room, run(100, 1, 1)) || !bytes.Equal(wide, b) {
		t.Error("changed")
	}
}
