package ask_test

import (
	"bytes"
	"slices"
	"testing"

	"jalousie/api"
	. "jalousie/ask"
	"jalousie/disk"
	"jalousie/entry"
	"jalousie/filter"
	"jalousie/hash"
	"jalousie/index"
	"jalousie/relay"
	"jalousie/vector"
)

// pieces are n whole pieces of a writer, one behind the other, with bodies of a size.
func pieces(writer, n, size int) []index.Piece {
	var l []index.Piece
	var prev api.Hash
	for i := range n {
		body := bytes.Repeat([]byte{byte(writer + i)}, size)
		h := entry.Header{Writer: writer, Seq: uint64(i + 1), Prev: prev, Size: size, Sum: hash.Sum(body), Tokens: []api.Token{{byte(i % 3)}}}
		h.Knows[writer-1] = uint64(i)
		prev = entry.Hash(h)
		l = append(l, index.Piece{Header: h, Body: body})
	}
	return l
}

func samePiece(a, b index.Piece) bool {
	return entry.Same(a.Header, b.Header) && bytes.Equal(a.Body, b.Body)
}

func same(a, b Request) bool {
	return a.ID == b.ID && a.Kind == b.Kind && samePiece(a.Piece, b.Piece) && a.Cursor == b.Cursor && a.Wish.All == b.Wish.All &&
		slices.Equal(a.Wish.Tokens, b.Wish.Tokens) && a.Most == b.Most && a.Writer == b.Writer && a.Seq == b.Seq
}

func sameReply(a, b Reply) bool {
	return a.ID == b.ID && a.Kind == b.Kind && a.Err == b.Err && a.Heads == b.Heads && slices.EqualFunc(a.Pieces, b.Pieces, samePiece)
}

var m = uint64(api.MaxSeq)

func requests() []Request {
	return []Request{
		{ID: 1<<64 - 1, Kind: 1, Piece: pieces(2, 3, 80)[2]},
		{Kind: 1, Piece: pieces(6, 1, 2064)[0]},
		{ID: 7, Kind: 2, Cursor: vector.Vector{1, 2, 3, 4, 5, 6}, Most: 8},
		{Kind: 2, Cursor: vector.Vector{m, m, m, m, m, m}, Wish: filter.Wish{All: true}, Most: 1},
		{ID: 300, Kind: 2, Wish: filter.Wish{Tokens: []api.Token{{1}, {2}, {3}, {4}, {5}, {6}, {7}, {8}}}, Most: 3},
		{ID: 9, Kind: 3, Writer: 6, Seq: m}, {Kind: 3, Writer: 1, Seq: 1},
	}
}

func TestRequests(t *testing.T) {
	for i, q := range requests() {
		b, e := Bytes(q)
		if !Formed(q) || e != api.OK {
			t.Fatal(i, e)
		}
		if back, e := Parse(b); e != api.OK || !same(back, q) {
			t.Error(i, e)
		}
		for n := range b {
			if back, e := Parse(b[:n]); e != api.ErrForm || !same(back, Request{}) {
				t.Error(i, n, e)
			}
		}
		if _, e := Parse(append(bytes.Clone(b), 0)); e != api.ErrForm {
			t.Error(i, e)
		}
		for at := range b {
			turned := bytes.Clone(b)
			turned[at] ^= 1 << (at % 8)
			if back, e := Parse(turned); e == api.OK {
				if again, e := Bytes(back); e != api.OK || !bytes.Equal(again, turned) {
					t.Error(i, at, e)
				}
			}
		}
	}
	if b, _ := Bytes(requests()[2]); !bytes.Equal(b, []byte{7, 2, 1, 2, 3, 4, 5, 6, 0, 0, 8}) {
		t.Error(b)
	}
	if b, _ := Bytes(requests()[5]); !bytes.Equal(b, []byte{9, 3, 6, 128, 128, 64}) {
		t.Error(b)
	}
	p := pieces(1, 1, 80)[0]
	h := entry.Bytes(p.Header)
	b, _ := Bytes(Request{ID: 3, Kind: 1, Piece: p})
	if want := slices.Concat([]byte{3, 1, byte(len(h)) | 128, byte(len(h) >> 7)}, h, []byte{80}, p.Body); !bytes.Equal(b, want) {
		t.Error(b)
	}
}

func TestRequestsThatAreNone(t *testing.T) {
	stub, big := pieces(1, 1, 80)[0], pieces(1, 1, 144)[0]
	for i, q := range requests() {
		for n, change := range []func(q *Request){
			func(q *Request) { q.Kind = 0 }, func(q *Request) { q.Kind = 4 }, func(q *Request) { q.Kind = -1 }, func(q *Request) { q.Kind = q.Kind%3 + 1 },
			func(q *Request) {
				if q.Piece.Header.Size++; q.Kind == 1 {
					q.Piece.Body = append(q.Piece.Body, 0)
				}
			},
			func(q *Request) { q.Piece.Body = append(bytes.Clone(q.Piece.Body), 1) },
			func(q *Request) { q.Piece = index.Piece{Header: stub.Header} },
			func(q *Request) { q.Piece = index.Piece{Header: stub.Header, Body: big.Body} },
			func(q *Request) { q.Cursor[5] = m + 1 }, func(q *Request) { q.Wish.All, q.Wish.Tokens = true, []api.Token{{1}} },
			func(q *Request) { q.Wish = filter.Wish{Tokens: []api.Token{{2}, {1}}} },
			func(q *Request) { q.Most += 9 }, func(q *Request) { q.Most -= 9 },
			func(q *Request) { q.Writer += 7 }, func(q *Request) { q.Writer -= 7 }, func(q *Request) { q.Seq += m + 1 },
			func(q *Request) {
				if q.Kind == 3 {
					q.Seq = 0
				} else {
					q.Writer = 1
				}
			},
			func(q *Request) {
				if q.Kind == 2 {
					q.Most = 0
				} else {
					q.Wish.All = true
				}
			},
		} {
			bad := q
			change(&bad)
			if b, e := Bytes(bad); Formed(bad) || e != api.ErrArg || len(b) > 0 {
				t.Error(i, n, e)
			}
		}
	}
	if Formed(Request{}) {
		t.Error("none")
	}
}

func replies() []Reply {
	l := append(pieces(1, 4, 2064), pieces(2, 4, 80)...)
	l[1].Body, l[7].Body = nil, nil
	return []Reply{
		{Kind: 1}, {ID: 1<<64 - 1, Kind: 3, Err: 14, Heads: vector.Vector{m, m, m, m, m, m}}, {ID: 5, Kind: 2, Heads: vector.Vector{1, 2}, Pieces: l}, {ID: 6, Kind: 3, Pieces: l[:1]},
	}
}

func TestReplies(t *testing.T) {
	for i, r := range replies() {
		b, e := ReplyBytes(r)
		if !FormedReply(r) || e != api.OK || len(b)&(len(b)-1) != 0 {
			t.Fatal(i, e, len(b))
		}
		if back, e := ParseReply(b); e != api.OK || !sameReply(back, r) {
			t.Error(i, e)
		}
		for _, other := range [][]byte{nil, b[:len(b)-1], b[:len(b)/2], append(bytes.Clone(b), 0), append(bytes.Clone(b), make([]byte, len(b))...), make([]byte, len(b)), bytes.TrimRight(b, "\x00")} {
			if len(other) == len(b) && other[0] == b[0] {
				continue
			}
			if back, e := ParseReply(other); e != api.ErrForm || !sameReply(back, Reply{}) {
				t.Error(i, len(other), e)
			}
		}
		for at := range b {
			turned := bytes.Clone(b)
			turned[at] ^= 1 << (at % 8)
			if back, e := ParseReply(turned); e == api.OK {
				if again, e := ReplyBytes(back); e != api.OK || !bytes.Equal(again, turned) {
					t.Error(i, at, e)
				}
			}
		}
	}
	b, _ := ReplyBytes(Reply{ID: 4, Kind: 2, Err: 3, Heads: vector.Vector{1, 2, 3, 4, 5, 6}})
	if !bytes.Equal(b, []byte{4, 2, 3, 1, 2, 3, 4, 5, 6, 0, 1, 0, 0, 0, 0, 0}) {
		t.Error(b)
	}
	b, _ = ReplyBytes(Reply{ID: 1 << 35, Kind: 2, Heads: vector.Vector{1, 2, 3, 4, 5, 6}})
	if back, e := ParseReply(b); e != api.OK || back.ID != 1<<35 || len(b) != 16 || b[15] != 1 {
		t.Error("at least the 1 has room", b)
	}
	if _, e := ParseReply(append(bytes.Clone(b), make([]byte, 16)...)); e != api.ErrForm {
		t.Error("more noughts than are needed", e)
	}
	b, _ = ReplyBytes(Reply{ID: 1 << 42, Kind: 2, Heads: vector.Vector{1, 2, 3, 4, 5, 6}})
	if back, e := ParseReply(b); e != api.OK || back.ID != 1<<42 || len(b) != 32 || b[16] != 1 {
		t.Error("at least the 1 has room", b)
	}
}

func TestRepliesThatAreNone(t *testing.T) {
	all := pieces(1, 9, 80)
	for n, r := range []Reply{
		{}, {Kind: 4}, {Kind: -1}, {Kind: 1, Err: 15}, {Kind: 1, Err: -1}, {Kind: 1, Heads: vector.Vector{5: m + 1}}, {Kind: 2, Pieces: all},
		{Kind: 2, Pieces: []index.Piece{{}}}, {Kind: 2, Pieces: []index.Piece{{Header: all[0].Header, Body: all[0].Body[:79]}}},
		{Kind: 2, Pieces: []index.Piece{all[0], {Header: entry.Header{Writer: 1}}}}, {Kind: 2, Pieces: pieces(1, 7, 2064)},
	} {
		if b, e := ReplyBytes(r); FormedReply(r) || e != api.ErrArg || len(b) > 0 {
			t.Error(n, e)
		}
	}
}

// The bound is on headers and bodies together.
func TestARepliesBound(t *testing.T) {
	l := append(pieces(1, 6, 2064), pieces(2, 1, 1040)...)
	total := func() int {
		size := 0
		for _, p := range l {
			size += len(entry.Bytes(p.Header)) + len(p.Body)
		}
		return size
	}
	for i := range l {
		for h := &l[i].Header; len(h.Tokens) < 8 && total()+16 <= 14500; {
			h.Tokens = append(h.Tokens, api.Token{10 + byte(len(h.Tokens))})
		}
	}
	for i := 0; total() < 14500; i++ {
		l[i].Header.Time = 128
	}
	if b, e := ReplyBytes(Reply{Kind: 2, Pieces: l}); total() != 14500 || e != api.OK || len(b) != 16384 {
		t.Error(total(), e, len(b))
	}
	for i := 0; total() < 14501; i++ {
		l[i].Header.Time = 128 * 128
	}
	if _, e := ReplyBytes(Reply{Kind: 2, Pieces: l}); total() != 14501 || e != api.ErrArg {
		t.Error(total(), e)
	}
}

func opened(t *testing.T, sectors int) *relay.Relay {
	t.Helper()
	r, e := relay.Open(disk.New(sectors))
	if e != api.OK {
		t.Fatal(e)
	}
	return r
}

func TestDo(t *testing.T) {
	r := opened(t, 4000)
	l := pieces(2, 10, 2064)
	is := func(q Request, want Reply) {
		t.Helper()
		got := Do(r, q)
		if !sameReply(got, want) || !FormedReply(got) {
			t.Error(got.Kind, got.Err, got.Heads, len(got.Pieces))
		}
	}
	is(Request{ID: 1, Kind: 1, Piece: l[0]}, Reply{ID: 1, Kind: 1, Heads: vector.Vector{0, 1}})
	is(Request{ID: 2, Kind: 1, Piece: l[0]}, Reply{ID: 2, Kind: 1, Heads: vector.Vector{0, 1}})
	is(Request{ID: 3, Kind: 1, Piece: l[2]}, Reply{ID: 3, Kind: 1, Err: api.ErrState, Heads: vector.Vector{0, 1}})
	other := l[0]
	other.Header.Time++
	is(Request{ID: 4, Kind: 1, Piece: other}, Reply{ID: 4, Kind: 1, Err: api.ErrFork, Heads: vector.Vector{0, 1}})
	for i, p := range l[1:] {
		is(Request{Kind: 1, Piece: p}, Reply{Kind: 1, Heads: vector.Vector{0, uint64(i + 2)}})
	}
	heads := vector.Vector{0, 10}
	is(Request{ID: 5, Kind: 3, Writer: 2, Seq: 7}, Reply{ID: 5, Kind: 3, Heads: heads, Pieces: l[6:7]})
	is(Request{ID: 5, Kind: 3, Writer: 2, Seq: 11}, Reply{ID: 5, Kind: 3, Err: api.ErrNone, Heads: heads})
	is(Request{ID: 5, Kind: 3, Writer: 1, Seq: 1}, Reply{ID: 5, Kind: 3, Err: api.ErrNone, Heads: heads})
	all := filter.Wish{All: true}
	is(Request{Kind: 2, Wish: all, Most: 3}, Reply{Kind: 2, Heads: heads, Pieces: l[:3]})
	is(Request{Kind: 2, Wish: all, Most: 8}, Reply{Kind: 2, Heads: heads, Pieces: l[:6]})
	is(Request{Kind: 2, Wish: all, Most: 8, Cursor: vector.Vector{1: 9}}, Reply{Kind: 2, Heads: heads, Pieces: l[9:]})
	is(Request{Kind: 2, Wish: all, Most: 8, Cursor: vector.Vector{1: 10}}, Reply{Kind: 2, Heads: heads})
	var stubs []index.Piece
	for _, p := range l[:8] {
		stubs = append(stubs, index.Piece{Header: p.Header})
	}
	is(Request{Kind: 2, Most: 8}, Reply{Kind: 2, Heads: heads, Pieces: stubs})
	stubs[1], stubs[4], stubs[7] = l[1], l[4], l[7]
	is(Request{Kind: 2, Most: 8, Wish: filter.Wish{Tokens: []api.Token{{1}}}}, Reply{Kind: 2, Heads: heads, Pieces: stubs})
	for _, q := range []Request{{}, {Kind: 2}, {Kind: 3, Writer: 1}, {ID: 3, Kind: 1, Piece: index.Piece{Header: l[0].Header}}} {
		if got := Do(r, q); !sameReply(got, Reply{}) {
			t.Error(got)
		}
	}
	full := opened(t, 6)
	if got := Do(full, Request{ID: 8, Kind: 1, Piece: l[0]}); !sameReply(got, Reply{ID: 8, Kind: 1, Err: api.ErrFull}) {
		t.Error(got)
	}
}

func TestServe(t *testing.T) {
	r, twin := opened(t, 4000), opened(t, 4000)
	for _, q := range requests() {
		b, _ := Bytes(q)
		before := bytes.Clone(b)
		told, is := Serve(r, b)
		want := Do(twin, q)
		if back, e := ParseReply(told); !is || e != api.OK || !sameReply(back, want) || !bytes.Equal(b, before) {
			t.Error(q.Kind, e)
		}
	}
	for _, b := range [][]byte{nil, {1}, {0, 4}, make([]byte, 300)} {
		if told, is := Serve(r, b); is || len(told) > 0 {
			t.Error(b)
		}
	}
}
