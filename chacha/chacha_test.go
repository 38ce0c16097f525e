package chacha_test

import (
	"bytes"
	"encoding/hex"
	"testing"

	"jalousie/api"
	. "jalousie/chacha"
	"jalousie/hash"
)

func key() (k api.Hash, n [12]byte) {
	for i := range k {
		k[i] = byte(i*5 + 1)
	}
	for i := range n {
		n[i] = byte(i*9 + 2)
	}
	return k, n
}

func TestBlock(t *testing.T) {
	var k api.Hash
	for i := range k {
		k[i] = byte(i)
	}
	b := Block(k, [12]byte{3: 9, 7: 74}, 1)
	if hex.EncodeToString(b[:]) != "10f1e7e4d13b5915500fdd1fa32071c4c7d1f4c733c068030422aa9ac3d46c4ed2826446079faa0914c2d705d98b02a2b5129cd1de164eb9cbd083e8a2503c4e" {
		t.Errorf("%x", b)
	}
	b = Block(api.Hash{}, [12]byte{}, 0)
	if hex.EncodeToString(b[:]) != "76b8e0ada0f13d90405d6ae55386bd28bdd219b8a08ded1aa836efcc8b770dc7da41597c5157488d7724e03fb8d84a376a43b8f41518a11cc387b669b2ee6586" {
		t.Errorf("%x", b)
	}
}

func TestStreamGoesRound(t *testing.T) {
	k, n := key()
	b, e := Stream(k, n, 1<<32-2, 65536)
	if e != api.OK || len(b) != 65536 {
		t.Fatal(e, len(b))
	}
	if h := hash.Sum(b); hex.EncodeToString(h[:]) != "7d7c5cc727bfe595b549018910e37e4b2e716bdea6bcd1a64bd87291e041770a" {
		t.Errorf("%x", h)
	}
	last, zero := Block(k, n, 1<<32-1), Block(k, n, 0)
	if !bytes.Equal(b[64:128], last[:]) || !bytes.Equal(b[128:192], zero[:]) {
		t.Error("behind the last counter comes 0")
	}
}

func TestStreamsBounds(t *testing.T) {
	k, n := key()
	for _, m := range []int{-1, 65537, -1 << 63, 1<<63 - 1} {
		if b, e := Stream(k, n, 0, m); e != api.ErrArg || len(b) != 0 {
			t.Error(m, e, len(b))
		}
	}
	all, _ := Stream(k, n, 7, 300)
	for m := range 300 {
		if b, e := Stream(k, n, 7, m); e != api.OK || !bytes.Equal(b, all[:m]) {
			t.Error(m, e)
		}
	}
}

func TestXor(t *testing.T) {
	k, n := key()
	for _, m := range []int{0, 1, 63, 64, 65, 128, 1000, 70000} {
		text := make([]byte, m, m+50)
		for i := range text {
			text[i] = byte(i * 11)
		}
		before := bytes.Clone(text)
		turned := Xor(k, n, 1<<32-1, text)
		if !bytes.Equal(text, before) || len(turned) != m {
			t.Fatal(m)
		}
		for at := 0; at < m; at += 64 {
			block := Block(k, n, uint32(at/64)-1)
			for i := at; i < min(m, at+64); i++ {
				if turned[i] != text[i]^block[i-at] {
					t.Fatal(m, i)
				}
			}
		}
		if !bytes.Equal(Xor(k, n, 1<<32-1, turned), text) {
			t.Error("twice", m)
		}
	}
}
