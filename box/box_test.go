package box_test

import (
	"bytes"
	"testing"

	"jalousie/api"
	. "jalousie/box"
	"jalousie/hash"
	"jalousie/seal"
)

var (
	seed  = api.Hash{1, 2, 3}
	key   = api.Hash{4, 5}
	other = api.Hash{4, 6}
	nonce = [12]byte{7}
)

// drawn is the n-th draw of the seed, of so many bytes.
func drawn(n, size int) []byte {
	b, _ := hash.Expand(hash.Derive(seed, "jalousie draw"), []byte{0, 0, 0, 0, 0, 0, byte(n >> 8), byte(n)}, size)
	return b
}

func TestRealBox(t *testing.T) {
	x := New(false, seed)
	if x.Ideal() {
		t.Error("mode")
	}
	text := []byte("hello")
	if !bytes.Equal(x.Seal(key, nonce, text), seal.Seal(key, nonce, text, nil)) {
		t.Error("seal")
	}
	if x.Code(key, text) != hash.Mac(key[:], text) || !x.Right(key, text, hash.Mac(key[:], text)) {
		t.Error("code")
	}
	if x.Right(other, text, x.Code(key, text)) || x.Right(key, text, api.Hash{}) || x.Right(key, text[1:], x.Code(key, text)) {
		t.Error("right")
	}
	mac := hash.Mac(key[:], text)
	if x.Blind(key, text) != api.Token(mac[:16]) {
		t.Error("blind")
	}
	if x.Draws() != 0 {
		t.Error(x.Draws())
	}
	if y := New(false, api.Hash{}); !bytes.Equal(y.Seal(key, nonce, text), x.Seal(key, nonce, text)) {
		t.Error("a real box has no seed")
	}
	if len(x.Seal(key, nonce, make([]byte, 20000))) != 20016 {
		t.Error("long")
	}
}

func TestOpen(t *testing.T) {
	for _, ideal := range []bool{false, true} {
		x := New(ideal, seed)
		for _, n := range []int{0, 1, 100, 8144} {
			text := bytes.Repeat([]byte{9}, n)
			b := x.Seal(key, nonce, text)
			if got, e := x.Open(key, nonce, b); e != api.OK || !bytes.Equal(got, text) || len(b) != n+16 {
				t.Error(ideal, n, e)
			}
		}
		b := x.Seal(key, nonce, []byte("text"))
		draws := x.Draws()
		for _, c := range []struct {
			key   api.Hash
			nonce [12]byte
			b     []byte
			want  api.Errno
		}{
			{other, nonce, b, api.ErrSeal}, {key, [12]byte{8}, b, api.ErrSeal},
			{key, nonce, b[:19], api.ErrSeal}, {key, nonce, append(bytes.Clone(b), 0), api.ErrSeal},
			{key, nonce, append([]byte{b[0] ^ 1}, b[1:]...), api.ErrSeal}, {key, nonce, make([]byte, 16), api.ErrSeal},
			{key, nonce, b[:15], api.ErrForm}, {key, nonce, nil, api.ErrForm},
		} {
			if got, e := x.Open(c.key, c.nonce, c.b); e != c.want || len(got) > 0 {
				t.Error(ideal, len(c.b), e)
			}
		}
		if x.Draws() != draws {
			t.Error("open draws nothing")
		}
	}
}

func TestIdealDraws(t *testing.T) {
	x := New(true, seed)
	if !x.Ideal() || x.Draws() != 0 {
		t.Error("new")
	}
	b := x.Seal(key, nonce, []byte("hello"))
	if len(b) != 21 || x.Draws() != 1 || !bytes.Equal(b, drawn(0, 21)) {
		t.Error(b)
	}
	if c := x.Code(key, []byte("a")); c != api.Hash(drawn(1, 32)) {
		t.Error(c)
	}
	if c := x.Blind(key, []byte("a")); c != api.Token(drawn(2, 16)) {
		t.Error(c)
	}
	if b := x.Seal(key, nonce, []byte("hello")); !bytes.Equal(b, drawn(3, 21)) || x.Draws() != 4 {
		t.Error("each seal draws")
	}
	if x.Code(key, []byte("a")) != api.Hash(drawn(1, 32)) || x.Blind(key, []byte("a")) != api.Token(drawn(2, 16)) || x.Draws() != 4 {
		t.Error("the same from then on")
	}
	if x.Code(other, []byte("a")) != api.Hash(drawn(4, 32)) || x.Code(key, []byte("b")) != api.Hash(drawn(5, 32)) {
		t.Error("another key, another text")
	}
	if x.Blind(other, []byte("a")) != api.Token(drawn(6, 16)) || x.Blind(key, nil) != api.Token(drawn(7, 16)) || x.Code(key, nil) != api.Hash(drawn(8, 32)) {
		t.Error("another key, another name")
	}
	if text, e := x.Open(key, nonce, b); e != api.OK || string(text) != "hello" {
		t.Error("both handles stand", e)
	}
	y := New(true, seed)
	if _, e := y.Open(key, nonce, b); e != api.ErrSeal {
		t.Error("two boxes don't hang on one another", e)
	}
}

func TestDrawsGoOn(t *testing.T) {
	x := New(true, seed)
	for n := range 600 {
		if c := x.Code(key, []byte{byte(n), byte(n >> 8)}); c != api.Hash(drawn(n, 32)) {
			t.Fatal(n)
		}
	}
}

func TestIdealRight(t *testing.T) {
	x := New(true, seed)
	real := New(false, seed)
	if x.Right(key, []byte("a"), real.Code(key, []byte("a"))) || x.Right(key, []byte("a"), api.Hash{}) || x.Draws() != 0 {
		t.Error("nothing was coded")
	}
	x.Blind(key, []byte("a"))
	if x.Right(key, []byte("a"), api.Hash{}) {
		t.Error("blinded isn't coded")
	}
	c := x.Code(key, []byte("a"))
	if !x.Right(key, []byte("a"), c) || x.Right(key, []byte("b"), c) || x.Right(other, []byte("a"), c) || x.Right(key, []byte("a"), api.Hash{}) {
		t.Error("right")
	}
	if x.Draws() != 2 {
		t.Error(x.Draws())
	}
}

func TestMemoryIsNotShared(t *testing.T) {
	x := New(true, seed)
	text, name := []byte("text"), []byte("name")
	b := x.Seal(key, nonce, text)
	sealed := bytes.Clone(b)
	code, token := x.Code(key, name), x.Blind(key, name)
	text[0], name[0], b[0] = 'z', 'z', b[0]^1
	got, e := x.Open(key, nonce, sealed)
	if e != api.OK || string(got) != "text" {
		t.Error(e, got)
	}
	got[0] = 'y'
	if got, _ := x.Open(key, nonce, sealed); string(got) != "text" {
		t.Error("what is answered is new memory")
	}
	if x.Code(key, []byte("name")) != code || x.Blind(key, []byte("name")) != token {
		t.Error("kept")
	}
}

func TestAnIdealSealThatIsTooLong(t *testing.T) {
	x := New(true, seed)
	x.Seal(key, nonce, make([]byte, 8145))
	x.Open(key, nonce, make([]byte, 8161))
}
