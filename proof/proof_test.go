package proof_test

import (
	"bytes"
	"slices"
	"testing"

	"jalousie/api"
	"jalousie/box"
	"jalousie/entry"
	"jalousie/keys"
	. "jalousie/proof"
)

var ring = Ring{Group: api.Hash{1}, Epochs: []api.Hash{{2}, {3}}}

// made is a right header of the ring.
func made(t *testing.T, x *box.Box, change func(h *entry.Header)) entry.Header {
	t.Helper()
	h := entry.Header{Writer: 2, Seq: 3, Epoch: 1, Prev: api.Hash{9}, Tokens: []api.Token{{4}, {6}}, Knows: [6]uint64{1: 2}}
	change(&h)
	s, _ := Keys(ring, h)
	h, _, e := entry.Make(x, s, h, []byte("text"))
	if e != api.OK {
		t.Fatal(e)
	}
	return h
}

func same(a, b Proof) bool {
	return a.Kind == b.Kind && entry.Same(a.A, b.A) && entry.Same(a.B, b.B) && a.Writer == b.Writer &&
		a.Floor == b.Floor && a.Head == b.Head && slices.Equal(a.Wanted, b.Wanted)
}

// proofs is one of each kind, and some more.
func proofs(t *testing.T, x *box.Box) map[string]Proof {
	a := made(t, x, func(h *entry.Header) {})
	next := func(h *entry.Header) { h.Seq, h.Knows[1] = 4, 3 }
	return map[string]Proof{
		"fork":          {Kind: 1, A: a, B: made(t, x, func(h *entry.Header) { h.Time = 5 })},
		"control fork":  {Kind: 1, A: a, B: made(t, x, func(h *entry.Header) { h.Control, h.Tokens = true, nil })},
		"epochs fork":   {Kind: 1, A: a, B: made(t, x, func(h *entry.Header) { h.Epoch = 0 })},
		"chain":         {Kind: 2, A: a, B: made(t, x, next)},
		"floor":         {Kind: 3, Writer: 1, Floor: 5, Head: 3},
		"highest floor": {Kind: 3, Writer: 6, Floor: 1 << 20, Head: 1<<20 - 1},
		"omit":          {Kind: 4, A: a, Wanted: []api.Token{{1}, {6}}},
		"omit of all":   {Kind: 4, A: a},
		"omit of eight": {Kind: 4, A: a, Wanted: []api.Token{{0}, {1}, {2}, {3}, {4}, {5}, {6}, {7}}},
	}
}

func TestKeys(t *testing.T) {
	for _, c := range []struct {
		h    entry.Header
		want keys.Set
		are  bool
	}{
		{entry.Header{Control: true, Epoch: 77}, keys.Of(api.Hash{1}), true}, {entry.Header{}, keys.Of(api.Hash{2}), true},
		{entry.Header{Epoch: 1}, keys.Of(api.Hash{3}), true}, {entry.Header{Epoch: 2}, keys.Set{}, false}, {entry.Header{Epoch: -1}, keys.Set{}, false},
	} {
		if s, are := Keys(ring, c.h); s != c.want || are != c.are {
			t.Error(c.h.Epoch, are)
		}
	}
	if _, are := Keys(Ring{}, entry.Header{}); are {
		t.Error("a ring of none")
	}
}

func TestRight(t *testing.T) {
	for _, ideal := range []bool{false, true} {
		x := box.New(ideal, api.Hash{})
		h := made(t, x, func(h *entry.Header) {})
		c := made(t, x, func(h *entry.Header) { h.Control, h.Tokens = true, nil })
		if !Right(x, ring, h) || !Right(x, ring, c) {
			t.Error("right")
		}
		other := Ring{Group: api.Hash{8}, Epochs: ring.Epochs[:1]}
		if Right(x, other, h) || Right(x, other, c) || Right(x, ring, entry.Header{}) {
			t.Error("not right")
		}
		h.Time++
		if Right(x, ring, h) {
			t.Error("turned")
		}
	}
}

func TestCheck(t *testing.T) {
	for _, ideal := range []bool{false, true} {
		x := box.New(ideal, api.Hash{})
		all := proofs(t, x)
		for name, p := range all {
			if !Check(x, ring, p) {
				t.Error(name)
			}
			// More epochs change nothing; other keys do, but for a floor.
			if !Check(x, Ring{ring.Group, append(slices.Clone(ring.Epochs), api.Hash{7})}, p) {
				t.Error(name, "more epochs")
			}
			if p.Kind != 3 && Check(x, Ring{api.Hash{7}, []api.Hash{{7}, {7}}}, p) || p.Kind == 3 && !Check(x, Ring{}, p) {
				t.Error(name, "other keys")
			}
			refused(t, x, name, p)
		}
		a, chained := all["fork"].A, all["chain"].B
		linked := made(t, x, func(h *entry.Header) { h.Seq, h.Knows[1], h.Prev = 4, 3, entry.Hash(a) })
		control := made(t, x, func(h *entry.Header) { h.Control, h.Tokens = true, nil })
		for name, p := range map[string]Proof{
			"the same twice":        {Kind: 1, A: a, B: a},
			"of two numbers":        {Kind: 1, A: a, B: chained},
			"of two writers":        {Kind: 1, A: a, B: made(t, x, func(h *entry.Header) { h.Writer, h.Knows = 1, [6]uint64{2} })},
			"linked":                {Kind: 2, A: a, B: linked},
			"turned round":          {Kind: 2, A: chained, B: a},
			"one number":            {Kind: 2, A: a, B: all["fork"].B},
			"two writers' chain":    {Kind: 2, A: a, B: made(t, x, func(h *entry.Header) { h.Writer, h.Seq, h.Knows = 1, 4, [6]uint64{3} })},
			"control isn't omitted": {Kind: 4, A: control},
			"not wanted":            {Kind: 4, A: a, Wanted: []api.Token{{5}}},
		} {
			if Check(x, ring, p) {
				t.Error(name)
			}
			if b, e := Bytes(p); e != api.OK || len(b) == 0 {
				t.Error("within bounds", name, e)
			}
		}
	}
}

// refused are the proof's turned forms: none is a proof, and those out of bounds have no bytes.
func refused(t *testing.T, x *box.Box, name string, p Proof) {
	t.Helper()
	for i, change := range []func(p *Proof){
		func(p *Proof) { p.Kind = 0 }, func(p *Proof) { p.Kind = 5 }, func(p *Proof) { p.Kind = -1 },
		func(p *Proof) { p.A, p.Floor = entry.Header{Seq: 1}, 0 },
		func(p *Proof) { p.B = entry.Header{Time: 1} },
		func(p *Proof) { p.Writer += 7 }, func(p *Proof) { p.Writer -= 7 },
		func(p *Proof) { p.Floor += 1 << 20 }, func(p *Proof) { p.Head = p.Floor + 1 }, func(p *Proof) { p.Floor, p.Head = p.Head, p.Floor+1 },
		func(p *Proof) { p.Wanted = make([]api.Token, 9) }, func(p *Proof) { p.Wanted = []api.Token{{6}, {4}} }, func(p *Proof) { p.Wanted = []api.Token{{6}, {6}} },
		func(p *Proof) {
			if p.Kind == 3 {
				p.Wanted = []api.Token{{4}}
			} else {
				p.Writer, p.Floor, p.Head = 1, 5, 3
			}
		},
		func(p *Proof) {
			if p.Kind < 3 {
				p.Wanted = []api.Token{{4}}
			} else {
				p.B = made(t, x, func(h *entry.Header) {})
			}
		},
		func(p *Proof) {
			if p.Kind == 3 {
				p.A = made(t, x, func(h *entry.Header) {})
			} else {
				p.A.Size++
			}
		},
	} {
		q := p
		change(&q)
		if Check(x, ring, q) {
			t.Error(name, "check", i)
		}
		if b, e := Bytes(q); e != api.ErrArg || len(b) > 0 {
			t.Error(name, "bytes", i, e)
		}
	}
}

func TestAFloorsEdges(t *testing.T) {
	x := box.New(false, api.Hash{})
	for _, c := range []struct {
		writer      int
		floor, head uint64
		want        bool
	}{{0, 5, 3, false}, {7, 5, 3, false}, {1, 3, 3, false}, {1, 0, 0, false}, {1, 1, 0, true}, {1, 1<<20 + 1, 0, false}, {6, 1 << 20, 0, true}} {
		p := Proof{Kind: 3, Writer: c.writer, Floor: c.floor, Head: c.head}
		if _, e := Bytes(p); Check(x, Ring{}, p) != c.want || (e == api.OK) != c.want {
			t.Error(c, e)
		}
	}
}

func TestBytesAndParse(t *testing.T) {
	x := box.New(false, api.Hash{})
	for name, p := range proofs(t, x) {
		b, e := Bytes(p)
		if e != api.OK {
			t.Error(name, e)
		}
		back, e := Parse(b)
		if e != api.OK || !same(back, p) {
			t.Error(name, e)
		}
		for n := range b {
			if back, e := Parse(b[:n]); e != api.ErrForm || !same(back, Proof{}) {
				t.Error(name, n, e)
			}
		}
		if _, e := Parse(append(bytes.Clone(b), 0)); e != api.ErrForm {
			t.Error(name, e)
		}
		for i := range b {
			turned := bytes.Clone(b)
			turned[i] ^= 1 << (i % 8)
			if back, e := Parse(turned); e == api.OK {
				if again, e := Bytes(back); e != api.OK || !bytes.Equal(again, turned) {
					t.Error(name, i, e)
				}
			}
		}
	}
	if b, _ := Bytes(Proof{Kind: 3, Writer: 1, Floor: 5, Head: 3}); !bytes.Equal(b, []byte{3, 1, 5, 3}) {
		t.Error(b)
	}
	a := made(t, x, func(h *entry.Header) {})
	b, _ := Bytes(Proof{Kind: 4, A: a, Wanted: []api.Token{{5}}})
	h := entry.Bytes(a)
	want := slices.Concat([]byte{4, byte(len(h)) | 128, byte(len(h) >> 7)}, h, []byte{1, 5}, make([]byte, 15))
	if !bytes.Equal(b, want) {
		t.Error(b)
	}
	for _, b := range [][]byte{nil, {0}, {5}, {1}, {3, 0, 5, 3}, {3, 7, 5, 3}, {3, 1, 3, 3}, {3, 1, 5, 131, 0}, {3, 1, 129, 128, 64, 3}} {
		if p, e := Parse(b); e != api.ErrForm || !same(p, Proof{}) {
			t.Error(b, e)
		}
	}
}
