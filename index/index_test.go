package index_test

import (
	"bytes"
	"testing"

	"jalousie/api"
	"jalousie/entry"
	"jalousie/filter"
	"jalousie/hash"
	. "jalousie/index"
	"jalousie/vector"
)

// pieces are n whole pieces of a writer, one behind the other; their tokens are the numbers modulo 3.
func pieces(writer, n int) []Piece {
	var l []Piece
	var prev api.Hash
	for i := range n {
		body := bytes.Repeat([]byte{byte(writer), byte(i)}, 40)
		h := entry.Header{Writer: writer, Seq: uint64(i + 1), Prev: prev, Tokens: []api.Token{{byte(i % 3)}}, Size: 80, Sum: hash.Sum(body)}
		h.Knows[writer-1] = uint64(i)
		prev = entry.Hash(h)
		l = append(l, Piece{h, body})
	}
	return l
}

func filled(t *testing.T, counts ...int) *Index {
	t.Helper()
	x := New()
	for i, n := range counts {
		for _, p := range pieces(i+1, n) {
			if e := x.Put(p); e != api.OK {
				t.Fatal(e)
			}
		}
	}
	return x
}

func same(a, b Piece) bool {
	return entry.Same(a.Header, b.Header) && bytes.Equal(a.Body, b.Body)
}

func TestPut(t *testing.T) {
	x := New()
	if x.Count() != 0 || x.Heads() != (vector.Vector{}) {
		t.Error("new")
	}
	l := pieces(2, 3)
	for i, p := range l {
		if e := x.Ask(p); e != api.OK || x.Count() != i {
			t.Error(e)
		}
		if e := x.Put(p); e != api.OK || x.Count() != i+1 || x.Heads() != (vector.Vector{1: uint64(i + 1)}) {
			t.Error(e)
		}
	}
	for i, p := range l {
		if got, e := x.Get(2, uint64(i+1)); e != api.OK || !same(got, p) {
			t.Error(i, e)
		}
	}
	for _, c := range []struct {
		writer int
		seq    uint64
	}{{2, 0}, {2, 4}, {1, 1}, {0, 1}, {7, 1}, {-1, 1}, {2, 1<<64 - 1}} {
		if p, e := x.Get(c.writer, c.seq); e != api.ErrNone || !same(p, Piece{}) {
			t.Error(c, e)
		}
	}
}

func TestPutsErrors(t *testing.T) {
	x := filled(t, 0, 2)
	l := pieces(2, 5)
	refused := func(what string, want api.Errno, p Piece, change func(p *Piece)) {
		t.Helper()
		change(&p)
		if e := x.Ask(p); e != want {
			t.Error(what, e)
		}
		if e := x.Put(p); e != want || x.Count() != 2 {
			t.Error(what, e)
		}
	}
	none := func(p *Piece) {}
	refused("none", api.ErrArg, Piece{}, none)
	refused("not formed", api.ErrArg, l[2], func(p *Piece) { p.Header.Size++ })
	refused("writer", api.ErrArg, l[2], func(p *Piece) { p.Header.Writer = 7 })
	refused("old", api.ErrOld, l[1], none)
	refused("old, without its body", api.ErrOld, l[1], func(p *Piece) { p.Body = nil })
	refused("fork", api.ErrFork, l[1], func(p *Piece) { p.Header.Time++ })
	refused("state", api.ErrState, l[3], func(p *Piece) { p.Body = nil })
	refused("chain", api.ErrChain, l[2], func(p *Piece) { p.Header.Prev[0]++; p.Body = nil })
	refused("a stub", api.ErrForm, l[2], func(p *Piece) { p.Body = nil })
	refused("another body", api.ErrForm, l[2], func(p *Piece) { p.Body = l[3].Body })
	refused("short", api.ErrForm, l[2], func(p *Piece) { p.Body = p.Body[:79] })
	refused("long", api.ErrForm, l[2], func(p *Piece) { p.Body = append(bytes.Clone(p.Body), 0) })
}

func TestFull(t *testing.T) {
	x := filled(t, 300, 100)
	p := pieces(2, 101)[100]
	if x.Count() != api.MaxRelay || x.Ask(p) != api.ErrFull || x.Put(p) != api.ErrFull || x.Count() != api.MaxRelay {
		t.Error(x.Count(), x.Ask(p))
	}
	if e := x.Put(Piece{Header: p.Header}); e != api.ErrForm {
		t.Error("not whole comes first", e)
	}
	if e := x.Put(pieces(2, 100)[99]); e != api.ErrOld {
		t.Error(e)
	}
}

func TestWhole(t *testing.T) {
	p := pieces(1, 1)[0]
	if !Whole(p) || Whole(Piece{Header: p.Header}) || Whole(Piece{}) {
		t.Error("whole")
	}
	p.Header.Size = 128
	if Whole(p) {
		t.Error("size")
	}
	p.Body = bytes.Repeat([]byte{1}, 5)
	p.Header = entry.Header{Size: 5, Sum: hash.Sum(p.Body)}
	if !Whole(p) {
		t.Error("whether the header is formed isn't asked")
	}
}

func batch(t *testing.T, x *Index, cursor vector.Vector, w filter.Wish, most int, want ...[2]int) {
	t.Helper()
	l := x.Batch(cursor, w, most)
	if len(l) != len(want) {
		t.Fatal(len(l), len(want))
	}
	for i, p := range l {
		whole, _ := x.Get(want[i][0], uint64(want[i][1]))
		if !entry.Same(p.Header, whole.Header) {
			t.Error(i, p.Header.Writer, p.Header.Seq)
		}
		if met := filter.Meets(w, whole.Header); met && !same(p, whole) || !met && len(p.Body) > 0 {
			t.Error("body", i)
		}
	}
}

func TestBatch(t *testing.T) {
	x := filled(t, 3, 0, 1, 9)
	all, none, some := filter.Wish{All: true}, filter.Wish{}, filter.Wish{Tokens: []api.Token{{1}}}
	first := [][2]int{{1, 1}, {3, 1}, {4, 1}, {1, 2}, {4, 2}, {1, 3}, {4, 3}, {4, 4}}
	for _, w := range []filter.Wish{all, none, some} {
		for most := range 9 {
			batch(t, x, vector.Vector{}, w, most, first[:most]...)
		}
		batch(t, x, vector.Vector{}, w, 1<<63-1, first...)
		batch(t, x, vector.Vector{}, w, -1)
		batch(t, x, vector.Vector{1, 5, 1, 7}, w, 8, [2]int{1, 2}, [2]int{4, 8}, [2]int{1, 3}, [2]int{4, 9})
		batch(t, x, vector.Vector{3, 0, 1, 9}, w, 8)
		m := uint64(1<<64 - 1)
		batch(t, x, vector.Vector{m, m, m - 1, 8, m, m}, w, 8, [2]int{4, 9})
	}
	batch(t, New(), vector.Vector{}, all, 8)
}

func TestBatchAfterBatch(t *testing.T) {
	x := filled(t, 30, 1, 0, 7, 12, 50)
	for most := 1; most <= 8; most++ {
		var v vector.Vector
		for range 200 {
			for _, p := range x.Batch(v, filter.Wish{}, most) {
				v[p.Header.Writer-1]++
				if v[p.Header.Writer-1] != p.Header.Seq {
					t.Fatal("a gap")
				}
			}
		}
		if v != x.Heads() {
			t.Error(most, v)
		}
	}
}

func TestMemoryIsNotShared(t *testing.T) {
	p := pieces(1, 1)[0]
	x := New()
	x.Put(p)
	p.Body[0], p.Header.Tokens[0][0] = 99, 99
	got, _ := x.Get(1, 1)
	got.Body[0], got.Header.Tokens[0][0] = 99, 99
	l := x.Batch(vector.Vector{}, filter.Wish{All: true}, 1)
	l[0].Body[0], l[0].Header.Tokens[0][0] = 99, 99
	if got, _ := x.Get(1, 1); !same(got, pieces(1, 1)[0]) {
		t.Error("shared")
	}
}
