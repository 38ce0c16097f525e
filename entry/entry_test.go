package entry_test

import (
	"bytes"
	"slices"
	"strings"
	"testing"

	"jalousie/api"
	"jalousie/box"
	. "jalousie/entry"
	"jalousie/hash"
	"jalousie/keys"
	"jalousie/pad"
	"jalousie/seal"
)

var set = keys.Of(api.Hash{1, 2})

// item is a formed header of an item's entry.
func item() Header {
	return Header{
		Writer: 2, Seq: 3, Prev: api.Hash{5}, Epoch: 4, Time: 300, Item: api.Token{6},
		Tokens: []api.Token{{1}, {1, 1}, {9}}, Knows: [6]uint64{1, 2, 0, 0, 0, 200}, Sum: api.Hash{7}, Size: 80, Code: api.Hash{8},
	}
}

func TestFormed(t *testing.T) {
	if !Formed(item()) {
		t.Fatal("formed")
	}
	many := make([]api.Token, 9)
	for i := range many {
		many[i][0] = byte(i)
	}
	for name, change := range map[string]func(h *Header){
		"the last writer":   func(h *Header) { h.Writer, h.Knows[5] = 6, 2 },
		"the first number":  func(h *Header) { h.Seq, h.Prev, h.Knows[1] = 1, api.Hash{}, 0 },
		"the last number":   func(h *Header) { h.Seq, h.Knows[1] = 1<<20, 1<<20-1 },
		"the last epoch":    func(h *Header) { h.Epoch = 255 },
		"the epoch 0":       func(h *Header) { h.Epoch = 0 },
		"the last time":     func(h *Header) { h.Time = 1 << 40 },
		"no time":           func(h *Header) { h.Time = 0 },
		"no item":           func(h *Header) { h.Item = api.Token{} },
		"no tokens":         func(h *Header) { h.Tokens = nil },
		"all tokens":        func(h *Header) { h.Tokens = many[:8] },
		"control":           func(h *Header) { h.Control, h.Item, h.Tokens = true, api.Token{}, []api.Token{} },
		"knows":             func(h *Header) { h.Knows[0] = 1 << 20 },
		"the greatest size": func(h *Header) { h.Size = 2064 },
		"no code":           func(h *Header) { h.Code, h.Sum = api.Hash{}, api.Hash{} },
		"no prev":           func(h *Header) { h.Prev = api.Hash{} },
	} {
		h := item()
		change(&h)
		if !Formed(h) {
			t.Error(name)
		}
		if back, e := Parse(Bytes(h)); e != api.OK || !Same(back, h) {
			t.Error(name, e)
		}
	}
	for name, change := range map[string]func(h *Header){
		"writer 0":                func(h *Header) { h.Writer = 0 },
		"writer 7":                func(h *Header) { h.Writer = 7 },
		"writer below 0":          func(h *Header) { h.Writer = -1 << 63 },
		"number 0":                func(h *Header) { h.Seq, h.Knows[1] = 0, 1<<64-1 },
		"number 0, prev none":     func(h *Header) { h.Seq, h.Knows[1], h.Prev = 0, 0, api.Hash{} },
		"number above":            func(h *Header) { h.Seq, h.Knows[1] = 1<<20+1, 1<<20 },
		"the first one's prev":    func(h *Header) { h.Seq, h.Knows[1] = 1, 0 },
		"epoch above":             func(h *Header) { h.Epoch = 256 },
		"epoch below":             func(h *Header) { h.Epoch = -1 },
		"time above":              func(h *Header) { h.Time = 1<<40 + 1 },
		"control with an item":    func(h *Header) { h.Control, h.Tokens = true, nil },
		"control with tokens":     func(h *Header) { h.Control, h.Item = true, api.Token{} },
		"control with a token":    func(h *Header) { h.Control, h.Item, h.Tokens = true, api.Token{}, h.Tokens[:1] },
		"nine tokens":             func(h *Header) { h.Tokens = many },
		"tokens that fall":        func(h *Header) { h.Tokens = []api.Token{{2}, {1}} },
		"a token twice":           func(h *Header) { h.Tokens = []api.Token{{2}, {2}} },
		"knows itself too little": func(h *Header) { h.Knows[1] = 1 },
		"knows itself too much":   func(h *Header) { h.Knows[1] = 3 },
		"knows too much":          func(h *Header) { h.Knows[5] = 1<<20 + 1 },
		"size 64":                 func(h *Header) { h.Size = 64 },
		"size 81":                 func(h *Header) { h.Size = 81 },
		"size 4112":               func(h *Header) { h.Size = 4112 },
		"size 16":                 func(h *Header) { h.Size = 16 },
		"size below 0":            func(h *Header) { h.Size = -1 << 63 },
	} {
		h := item()
		change(&h)
		if Formed(h) || len(Bytes(h)) != 0 || Right(box.New(false, api.Hash{}), set, h) || Hash(h) != hash.Sum() {
			t.Error(name)
		}
	}
}

func TestBytes(t *testing.T) {
	small := Header{Writer: 1, Seq: 1, Size: 80}
	if len(Bytes(small)) != 125 {
		t.Error(len(Bytes(small)))
	}
	h := item()
	want := append([]byte{2, 3}, h.Prev[:]...)
	want = append(want, 4, 0, 172, 2)
	want = append(want, h.Item[:]...)
	want = append(want, 3)
	for _, token := range h.Tokens {
		want = append(want, token[:]...)
	}
	want = append(want, 1, 2, 0, 0, 0, 200, 1)
	want = append(want, h.Sum[:]...)
	want = append(want, 80)
	want = append(want, h.Code[:]...)
	if b := Bytes(h); !bytes.Equal(b, want) {
		t.Errorf("%v, want %v", b, want)
	}
	if Hash(h) != hash.Sum(want) {
		t.Error("hash")
	}
}

func TestParseOfWhatIsNone(t *testing.T) {
	b := Bytes(item())
	for n := range b {
		if h, e := Parse(b[:n]); e != api.ErrForm || !Same(h, Header{}) {
			t.Error(n, e)
		}
	}
	if _, e := Parse(append(bytes.Clone(b), 0)); e != api.ErrForm {
		t.Error("something behind", e)
	}
	for i := range b {
		for _, x := range []byte{1, 2, 64, 128, 255} {
			turned := bytes.Clone(b)
			turned[i] ^= x
			h, e := Parse(turned)
			switch {
			case e == api.OK && (!Formed(h) || !bytes.Equal(Bytes(h), turned) || Same(h, item())):
				t.Error("parsed, but other bytes", i, x)
			case e != api.OK && (e != api.ErrForm || !Same(h, Header{})):
				t.Error(i, x, e)
			}
		}
	}
	long := append([]byte{2, 131, 0}, b[2:]...)
	if _, e := Parse(long); e != api.ErrForm {
		t.Error("a number that is packed too long", e)
	}
	if _, e := Parse(make([]byte, 20000)); e != api.ErrForm {
		t.Error(e)
	}
}

func TestSame(t *testing.T) {
	if !Same(item(), item()) || !Same(Header{}, Header{Tokens: []api.Token{}}) {
		t.Error("same")
	}
	for i, change := range []func(h *Header){
		func(h *Header) { h.Writer++ }, func(h *Header) { h.Seq++ }, func(h *Header) { h.Prev[31]++ }, func(h *Header) { h.Epoch++ },
		func(h *Header) { h.Control = true }, func(h *Header) { h.Time++ }, func(h *Header) { h.Item[15]++ }, func(h *Header) { h.Tokens[2][15]++ },
		func(h *Header) { h.Tokens = h.Tokens[:2] }, func(h *Header) { h.Knows[5]++ }, func(h *Header) { h.Sum[31]++ },
		func(h *Header) { h.Size++ }, func(h *Header) { h.Code[31]++ },
	} {
		h := item()
		change(&h)
		if Same(h, item()) || Same(item(), h) {
			t.Error(i)
		}
	}
}

func TestMakeAndOpen(t *testing.T) {
	for _, ideal := range []bool{false, true} {
		x := box.New(ideal, api.Hash{3})
		for _, n := range []int{0, 5, 63, 64, 2047} {
			text := bytes.Repeat([]byte{4}, n)
			plan := item()
			plan.Size, plan.Sum, plan.Code = -7, api.Hash{1}, api.Hash{1}
			draws := x.Draws()
			h, body, e := Make(x, set, plan, text)
			if e != api.OK || !Right(x, set, h) {
				t.Fatal(ideal, n, e)
			}
			bucket, _ := pad.Bucket(n)
			if h.Size != bucket+16 || len(body) != h.Size || h.Sum != hash.Sum(body) {
				t.Error(ideal, n, h.Size, len(body))
			}
			if ideal && x.Draws() != draws+2 {
				t.Error(x.Draws())
			}
			if padded, e := x.Open(set.Body, seal.Nonce(2, 3), body); e != api.OK || len(padded) != bucket {
				t.Error("the nonce is of the writer and the number", e)
			}
			if got, e := Open(x, set, h, body); e != api.OK || !bytes.Equal(got, text) {
				t.Error(ideal, n, e)
			}
			plan.Tokens[0][0] = 77
			if h.Tokens[0][0] == 77 {
				t.Error("what is answered is new memory")
			}
			h.Code, plan = api.Hash{}, h
		}
	}
	// The body is sealed first, then the core is coded.
	x, y := box.New(true, api.Hash{3}), box.New(true, api.Hash{3})
	_, body, _ := Make(x, set, item(), []byte("text"))
	if !bytes.Equal(body, y.Seal(set.Body, seal.Nonce(2, 3), make([]byte, 64))) {
		t.Error("first the body")
	}
}

func TestMakesErrors(t *testing.T) {
	x := box.New(true, api.Hash{3})
	bad := item()
	bad.Writer = 7
	if h, body, e := Make(x, set, bad, make([]byte, 2048)); e != api.ErrLong || len(body) > 0 || !Same(h, Header{}) {
		t.Error("long comes first", e)
	}
	if h, body, e := Make(x, set, bad, nil); e != api.ErrArg || len(body) > 0 || !Same(h, Header{}) {
		t.Error(e)
	}
	bad = item()
	bad.Knows[1] = 0
	if _, _, e := Make(x, set, bad, nil); e != api.ErrArg || x.Draws() != 0 {
		t.Error(e, x.Draws())
	}
}

func TestRightOfOthers(t *testing.T) {
	for _, ideal := range []bool{false, true} {
		x := box.New(ideal, api.Hash{3})
		h, body, _ := Make(x, set, item(), []byte("text"))
		if Right(x, keys.Of(api.Hash{9}), h) {
			t.Error("other keys")
		}
		for _, change := range []func(h *Header){
			func(h *Header) { h.Time++ }, func(h *Header) { h.Code[0]++ }, func(h *Header) { h.Sum[0]++ }, func(h *Header) { h.Epoch++ },
			func(h *Header) { h.Tokens = nil }, func(h *Header) { h.Knows[0]++ }, func(h *Header) { h.Prev[0]++ },
		} {
			turned := h
			change(&turned)
			if Right(x, set, turned) {
				t.Error("turned")
			}
		}
		refused := func(what string, s keys.Set, h Header, body []byte, want api.Errno) {
			t.Helper()
			if text, e := Open(x, s, h, body); e != want || len(text) > 0 {
				t.Error(what, e)
			}
		}
		refused("short", set, h, body[:79], api.ErrForm)
		refused("none", set, h, nil, api.ErrForm)
		refused("another", set, h, make([]byte, 80), api.ErrForm)
		refused("keys", keys.Of(api.Hash{9}), h, body, api.ErrSeal)
		other := h
		other.Seq++
		refused("number", set, other, body, api.ErrSeal)
		other = h
		other.Size++
		refused("size", set, other, body, api.ErrForm)
		plain := x.Seal(set.Body, seal.Nonce(2, 3), make([]byte, 64))
		other = h
		other.Sum = hash.Sum(plain)
		refused("not padded", set, other, plain, api.ErrForm)
		other.Sum, other.Size = hash.Sum(plain[:10]), 10
		refused("too short to be sealed", set, other, plain[:10], api.ErrForm)
		// Open doesn't ask whether a header is formed.
		other = h
		other.Time, other.Tokens = 1<<41, make([]api.Token, 20)
		if text, e := Open(x, set, other, body); e != api.OK || string(text) != "text" {
			t.Error(e)
		}
	}
}

func TestChanges(t *testing.T) {
	long := strings.Repeat("n", 24)
	tags := strings.Split("a b c d e f g h", " ")
	for _, c := range []Change{
		{Op: 1, Name: "n"}, {Op: 1, Name: long, Tags: []string{"a", long}, Value: strings.Repeat("v", 512)}, {Op: 1, Name: "\x00", Tags: []string{"\xff"}},
		{Op: 2, Name: "n"}, {Op: 3, Name: "n", Tags: tags}, {Op: 3, Name: "n"}, {Op: 1, Name: "n", Tags: []string{"a", "a\x00", "b"}},
	} {
		b, e := PackChange(c)
		if !FormedChange(c) || e != api.OK {
			t.Error(c, e)
		}
		back, e := ParseChange(b)
		if e != api.OK || back.Op != c.Op || back.Name != c.Name || back.Value != c.Value || !slices.Equal(back.Tags, c.Tags) {
			t.Error(c, back, e)
		}
		for n := range b {
			if back, e := ParseChange(b[:n]); e != api.ErrForm || back.Op != 0 || back.Name != "" || back.Tags != nil || back.Value != "" {
				t.Error(n, e)
			}
		}
		if _, e := ParseChange(append(b, 0)); e != api.ErrForm {
			t.Error(e)
		}
	}
	b, _ := PackChange(Change{Op: 1, Name: "ab", Tags: []string{"c", "d"}, Value: "xyz"})
	if string(b) != "\x01\x02ab\x02\x01c\x01d\x03xyz" {
		t.Errorf("%q", b)
	}
}

func TestChangesThatAreNone(t *testing.T) {
	long := strings.Repeat("n", 25)
	for _, c := range []Change{
		{}, {Op: 0, Name: "n"}, {Op: 4, Name: "n"}, {Op: -1, Name: "n"}, {Op: 1}, {Op: 1, Name: long}, {Op: 1, Name: "n", Tags: []string{""}},
		{Op: 1, Name: "n", Tags: []string{long}}, {Op: 1, Name: "n", Tags: []string{"b", "a"}}, {Op: 1, Name: "n", Tags: []string{"a", "a"}},
		{Op: 1, Name: "n", Tags: strings.Split("a b c d e f g h i", " ")}, {Op: 1, Name: "n", Value: strings.Repeat("v", 513)},
		{Op: 2, Name: "n", Tags: []string{"a"}}, {Op: 2, Name: "n", Value: "v"}, {Op: 3, Name: "n", Value: "v"},
	} {
		if b, e := PackChange(c); FormedChange(c) || e != api.ErrArg || len(b) > 0 {
			t.Error(c, e)
		}
	}
	for _, s := range []string{
		"", "\x00\x01n\x00\x00", "\x04\x01n\x00\x00", "\x01\x00\x00\x00", "\x01\x01n\x01\x00\x00", "\x01\x01n\x02\x01b\x01a\x00", "\x01\x01n\x02\x01a\x01a\x00",
		"\x02\x01n\x01\x01a\x00", "\x02\x01n\x00\x01v", "\x03\x01n\x00\x01v", "\x01\x81\x00n\x00\x00", "\x01\x19" + long + "\x00\x00",
		"\x01\x01n\x09\x01a\x01b\x01c\x01d\x01e\x01f\x01g\x01h\x01i\x00", "\x01\x01n\x00\x81\x04" + strings.Repeat("v", 513),
	} {
		if c, e := ParseChange([]byte(s)); e != api.ErrForm || c.Op != 0 || c.Name != "" || len(c.Tags) > 0 || c.Value != "" {
			t.Errorf("%q %d", s, e)
		}
	}
}
