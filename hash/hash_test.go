package hash_test

import (
	"bytes"
	"encoding/hex"
	"slices"
	"strings"
	"testing"

	"jalousie/api"
	. "jalousie/hash"
)

func is(t *testing.T, what string, got []byte, want string) {
	t.Helper()
	if hex.EncodeToString(got) != want {
		t.Errorf("%s: %x, want %s", what, got, want)
	}
}

// run is n bytes that begin with from and go on in steps.
func run(n, step, from int) []byte {
	b := make([]byte, n)
	for i := range b {
		b[i] = byte(i*step + from)
	}
	return b
}

func TestSumOfKnownTexts(t *testing.T) {
	for _, c := range []struct{ text, want string }{
		{"", "e3b0c44298fc1c149afbf4c8996fb92427ae41e4649b934ca495991b7852b855"},
		{"abc", "ba7816bf8f01cfea414140de5dae2223b00361a396177a9cb410ff61f20015ad"},
		{"abcdbcdecdefdefgefghfghighijhijkijkljklmklmnlmnomnopnopq", "248d6a61d20638b8e5c026930c3e6039a33ce45964ff2167f6ecedd419db06c1"},
		{strings.Repeat("a", 1000000), "cdc76e5c9914fb9281a1c7e284d73e67f1809a48a497200e046d39ccc7112cd0"},
	} {
		h := Sum([]byte(c.text))
		is(t, "sum", h[:], c.want)
	}
}

func TestSumOfAllLengths(t *testing.T) {
	var all []byte
	for n := range 301 {
		h := Sum(run(n, 7, n))
		all = append(all, h[:]...)
	}
	h := Sum(all)
	is(t, "lengths", h[:], "60d63ff40b5558727a9b786ac0be9300f7ca58fd9ddd3b2f3681b369018a87dc")
}

func TestPartsAreJoined(t *testing.T) {
	text := run(200, 5, 1)
	whole, mac := Sum(text), Mac([]byte("k"), text)
	for i := range text {
		for j := i; j < len(text); j += 37 {
			if Sum(text[:i], nil, text[i:j], text[j:]) != whole {
				t.Fatal("sum", i, j)
			}
			if Mac([]byte("k"), text[:i], text[i:j], []byte{}, text[j:]) != mac {
				t.Fatal("mac", i, j)
			}
		}
	}
	if Sum() != Sum(nil) || Mac(nil) != Mac([]byte{}, nil, nil) {
		t.Error("no parts are a text of no bytes")
	}
}

func TestMac(t *testing.T) {
	h := Mac([]byte("Jefe"), []byte("what do ya want "), []byte("for nothing?"))
	is(t, "short key", h[:], "5bdcc146bf60754e6a042426089575c75a003f089d2739839dec58b964ec3843")
	h = Mac(bytes.Repeat([]byte{0xaa}, 131), []byte("Test Using Larger Than Block-Size Key - Hash Key First"))
	is(t, "long key", h[:], "60e431591ee0b67f0d8a26aacbf5b77f8e0bc6213728c5140546040f0ee37f54")
	var all []byte
	for n := range 201 {
		key := run(n, 3, n)
		h := Mac(key, []byte("text "), key)
		all = append(all, h[:]...)
	}
	h = Sum(all)
	is(t, "keys of all lengths", h[:], "0df886da9da6d8bf2fc66f316d04b871822aca572670c3833ff3e5795579b305")
}

func TestExtractAndExpand(t *testing.T) {
	key := Extract(run(80, 1, 0x60), run(80, 1, 0))
	is(t, "extract", key[:], "06a6b88c5853361a06104c9ceb35b45cef760014904671014a193f40c15fc244")
	info := run(80, 1, 0xb0)
	b, e := Expand(key, info, 82)
	if e != api.OK {
		t.Error(e)
	}
	is(t, "expand", b, "b11e398dc80327a1c8e7f78c596a49344f012eda2d4efad8a050cc4c19afa97c59045a99cac7827271cb41c65e590e09da3275600c2f09b8367793a9aca3db71cc30c58179ec3e87c14c01d5c1f3434f1d87")
	all, e := Expand(key, info, 8160)
	if e != api.OK || len(all) != 8160 || !bytes.Equal(all[:82], b) {
		t.Error(e, len(all))
	}
	h := Sum(all)
	is(t, "the longest", h[:], "cfb9b955be4adb750ca7c54070ef12f869e4ca9455bb1a525ec4d0851cac3a6d")
	key = Extract(nil, bytes.Repeat([]byte{11}, 22))
	is(t, "no salt", key[:], "19ef24a32c717b167f33a91d6f648bdf96596776afdb6377ac434c1c293ccb04")
	b, _ = Expand(key, nil, 42)
	is(t, "no info", b, "8da4e775a563c18f715f802a063c5a31b8a11f5c5ee1879ec3454e5f3c738d2d9d201395faa4b61a96c8")
}

func TestExpandsBounds(t *testing.T) {
	for _, n := range []int{-1, 8161, -1 << 63, 1<<63 - 1} {
		if b, e := Expand(api.Hash{1}, nil, n); e != api.ErrArg || len(b) != 0 {
			t.Error(n, e, len(b))
		}
	}
	for _, n := range []int{0, 1, 31, 32, 33, 8159, 8160} {
		if b, e := Expand(api.Hash{1}, nil, n); e != api.OK || len(b) != n {
			t.Error(n, e, len(b))
		}
	}
}

func TestDerive(t *testing.T) {
	h := Derive(api.Hash(run(32, 1, 0)), "jalousie back")
	is(t, "derive", h[:], "d93dfde6862c201f26c50ea1d1f7f88ac219e29a4a24f52aaa8254033a1716e9")
	for _, label := range []string{"", "a", strings.Repeat("long", 100)} {
		b, _ := Expand(api.Hash{7}, []byte(label), 32)
		if h := Derive(api.Hash{7}, label); !bytes.Equal(h[:], b) {
			t.Error(label)
		}
	}
}

func TestWhatIsHandedInIsLeft(t *testing.T) {
	key, part := run(150, 1, 1), run(150, 1, 3)
	wide := append(make([]byte, 0, 400), part...)
	Mac(key[:100], wide[:20], wide[:90])
	Sum(wide[:20], wide[:90])
	Expand(api.Hash{}, wide[:20], 100)
	Extract(wide[:70], wide[:20])
	if !bytes.Equal(key, run(150, 1, 1)) || !bytes.Equal(wide, part) || slices.Max(wide[150:400]) != 0 {
		t.Error("changed")
	}
}
