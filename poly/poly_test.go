package poly_test

import (
	"bytes"
	"encoding/hex"
	"math/big"
	"math/rand"
	"slices"
	"testing"

	"jalousie/api"
	. "jalousie/poly"
)

// plain is the code as the document words it, by numbers of any size.
func plain(key api.Hash, text []byte) [16]byte {
	little := func(b []byte) *big.Int {
		b = bytes.Clone(b)
		slices.Reverse(b)
		return new(big.Int).SetBytes(b)
	}
	mask, _ := new(big.Int).SetString("0ffffffc0ffffffc0ffffffc0fffffff", 16)
	r := little(key[:16])
	r.And(r, mask)
	p := new(big.Int).Sub(new(big.Int).Lsh(big.NewInt(1), 130), big.NewInt(5))
	sum := new(big.Int)
	for len(text) > 0 {
		n := min(16, len(text))
		sum.Add(sum, little(append(bytes.Clone(text[:n]), 1)))
		sum.Mul(sum, r).Mod(sum, p)
		text = text[n:]
	}
	sum.Add(sum, little(key[16:]))
	sum.Mod(sum, new(big.Int).Lsh(big.NewInt(1), 128))
	b := sum.FillBytes(make([]byte, 16))
	slices.Reverse(b)
	return [16]byte(b)
}

func TestKnownCode(t *testing.T) {
	k, _ := hex.DecodeString("85d6be7857556d337f4452fe42d506a80103808afb0db2fd4abff6af4149f51b")
	c := Code(api.Hash(k), []byte("Cryptographic Forum"), nil, []byte(" Research Group"))
	if hex.EncodeToString(c[:]) != "a8061dc1305136c6c22b8baf0c0127a9" {
		t.Errorf("%x", c)
	}
}

func TestCodeOfManyTexts(t *testing.T) {
	r := rand.New(rand.NewSource(1))
	for n := range 3000 {
		var key api.Hash
		r.Read(key[:])
		text := make([]byte, r.Intn(100))
		r.Read(text)
		// Many bits that are one drive the carries.
		if n%3 == 0 {
			for i := range text {
				text[i] = 255
			}
		}
		if n%5 == 0 {
			for i := range key {
				key[i] = 255
			}
		}
		if got, want := Code(key, text), plain(key, text); got != want {
			t.Fatalf("%x %x: %x, want %x", key, text, got, want)
		}
	}
}

func TestCodeAtTheModulus(t *testing.T) {
	// With r = 1 the sum is the blocks' own: those around 2^130 - 5.
	var key api.Hash
	key[0] = 1
	for low := range 256 {
		for blocks := 1; blocks < 6; blocks++ {
			text := bytes.Repeat([]byte{255}, 16*blocks)
			text[0] = byte(low)
			if Code(key, text) != plain(key, text) {
				t.Fatal(low, blocks)
			}
		}
	}
	if Code(api.Hash{}) != ([16]byte{}) || Code(api.Hash{20: 3}) != [16]byte{4: 3} {
		t.Error("of no text the code is s")
	}
}

func TestPartsAreJoined(t *testing.T) {
	text := make([]byte, 70)
	for i := range text {
		text[i] = byte(i * 13)
	}
	key := api.Hash{1, 2, 3, 4, 17: 9}
	whole := plain(key, text)
	for i := range text {
		for j := i; j < len(text); j++ {
			if Code(key, text[:i], []byte{}, text[i:j], text[j:]) != whole {
				t.Fatal(i, j)
			}
		}
	}
}

func TestEqual(t *testing.T) {
	a := []byte{1, 2, 3}
	for _, c := range []struct {
		b    []byte
		want bool
	}{
		{[]byte{1, 2, 3}, true}, {[]byte{1, 2}, false}, {[]byte{1, 2, 3, 0}, false}, {nil, false},
		{[]byte{0, 2, 3}, false}, {[]byte{1, 2, 131}, false}, {[]byte{2, 1, 3}, false},
	} {
		if Equal(a, c.b) != c.want || Equal(c.b, a) != c.want {
			t.Error(c.b)
		}
	}
	if !Equal(nil, []byte{}) {
		t.Error("none")
	}
}
