package keys_test

import (
	"bytes"
	"slices"
	"testing"

	"jalousie/api"
	"jalousie/box"
	"jalousie/hash"
	. "jalousie/keys"
	"jalousie/seal"
)

var secret = api.Hash{1, 2, 3}

func TestOf(t *testing.T) {
	s := Of(secret)
	want := Set{hash.Derive(secret, "jalousie body"), hash.Derive(secret, "jalousie code"), hash.Derive(secret, "jalousie tag"), hash.Derive(secret, "jalousie item")}
	if s != want {
		t.Error(s)
	}
}

func TestPair(t *testing.T) {
	if Pair(secret, 1, 2) != Pair(secret, 2, 1) || Pair(secret, 1, 2) != hash.Mac(secret[:], []byte{1, 2}) {
		t.Error("1 and 2")
	}
	if Pair(secret, 3, 3) != hash.Mac(secret[:], []byte{3, 3}) {
		t.Error("3 and 3")
	}
	if Pair(secret, 257, 2) != hash.Mac(secret[:], []byte{2, 1}) {
		t.Error("the lesser number comes first, then of both their lowest bytes")
	}
	if Pair(secret, 5, -1) != hash.Mac(secret[:], []byte{255, 5}) {
		t.Error("below 0")
	}
	if Pair(api.Hash{9}, 1, 2) == Pair(secret, 1, 2) {
		t.Error("secret")
	}
}

func TestTokens(t *testing.T) {
	for _, ideal := range []bool{false, true} {
		x, s := box.New(ideal, api.Hash{8}), Of(secret)
		tags := []string{"c", "a", "", "b", "a", "d"}
		l := Tokens(x, s, tags)
		if ideal && x.Draws() != 5 {
			t.Error(x.Draws())
		}
		if !Sorted(l) || len(l) != 5 || !slices.Equal(tags, []string{"c", "a", "", "b", "a", "d"}) {
			t.Error(l)
		}
		for _, tag := range tags {
			if !slices.Contains(l, Token(x, s, tag)) || Token(x, s, tag) != x.Blind(s.Tag, []byte(tag)) {
				t.Error(tag)
			}
		}
		if Item(x, s, "a") != x.Blind(s.Item, []byte("a")) || Item(x, s, "a") == Token(x, s, "a") {
			t.Error("item")
		}
		if len(Tokens(x, s, nil)) != 0 {
			t.Error("none")
		}
	}
	// The tags are blinded in their order, as an ideal box's draws tell.
	x, y := box.New(true, api.Hash{8}), box.New(true, api.Hash{8})
	s := Of(secret)
	Tokens(x, s, []string{"c", "a", "b"})
	for _, tag := range []string{"c", "a", "b"} {
		if Token(y, s, tag) != Token(x, s, tag) {
			t.Error(tag)
		}
	}
}

func TestSlots(t *testing.T) {
	for _, ideal := range []bool{false, true} {
		x := box.New(ideal, api.Hash{8})
		pair, key := Pair(secret, 1, 2), api.Hash{7, 7}
		b := Slot(x, pair, 2, 5, key)
		if len(b) != 48 {
			t.Error(len(b))
		}
		if k, e := Unslot(x, pair, 2, 5, b); e != api.OK || k != key {
			t.Error(e)
		}
		if k, e := x.Open(pair, seal.Nonce(2, 5), b); e != api.OK || !bytes.Equal(k, key[:]) {
			t.Error("the nonce is of the member and the epoch", e)
		}
		for _, c := range []struct {
			pair          api.Hash
			member, epoch int
			b             []byte
			want          api.Errno
		}{
			{pair, 2, 6, b, api.ErrSeal}, {pair, 1, 5, b, api.ErrSeal}, {Pair(secret, 1, 3), 2, 5, b, api.ErrSeal},
			{pair, 2, 5, b[:47], api.ErrSeal}, {pair, 2, 5, b[:15], api.ErrForm}, {pair, 2, 5, nil, api.ErrForm},
			{pair, 2, 5, x.Seal(pair, seal.Nonce(2, 5), key[:31]), api.ErrForm},
			{pair, 2, 5, x.Seal(pair, seal.Nonce(2, 5), append(key[:], 0)), api.ErrForm},
			{pair, 2, 5, x.Seal(pair, seal.Nonce(2, 5), nil), api.ErrForm},
		} {
			if k, e := Unslot(x, c.pair, c.member, c.epoch, c.b); e != c.want || k != (api.Hash{}) {
				t.Error(len(c.b), e)
			}
		}
		if k, e := Unslot(x, pair, -1, -1, Slot(x, pair, -1, -1, key)); e != api.OK || k != key {
			t.Error("any numbers", e)
		}
	}
}

func TestSortedAndMeet(t *testing.T) {
	a, b, c := api.Token{1}, api.Token{1, 15: 1}, api.Token{2}
	for _, l := range [][]api.Token{nil, {a}, {a, b}, {a, b, c}, {{}, c}} {
		if !Sorted(l) {
			t.Error(l)
		}
	}
	for _, l := range [][]api.Token{{a, a}, {b, a}, {a, c, b}, {a, b, b}, {c, a, b}} {
		if Sorted(l) {
			t.Error(l)
		}
	}
	for _, q := range []struct {
		a, b []api.Token
		want bool
	}{
		{nil, nil, false}, {[]api.Token{a}, nil, false}, {[]api.Token{a}, []api.Token{a}, true}, {[]api.Token{a, b}, []api.Token{c}, false},
		{[]api.Token{c, a}, []api.Token{b, c}, true}, {[]api.Token{a, b, c}, []api.Token{{}, c}, true},
	} {
		if Meet(q.a, q.b) != q.want || Meet(q.b, q.a) != q.want {
			t.Error(q)
		}
	}
}
