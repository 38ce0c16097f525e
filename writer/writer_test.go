package writer_test

import (
	"testing"

	"jalousie/api"
	"jalousie/entry"
	. "jalousie/writer"
)

// chain are n headers of a writer, one behind the other.
func chain(writer, n int) []entry.Header {
	var l []entry.Header
	var prev api.Hash
	for i := range n {
		h := entry.Header{Writer: writer, Seq: uint64(i + 1), Prev: prev, Time: uint64(i), Tokens: []api.Token{{byte(i)}}, Size: 80}
		h.Knows[writer-1] = uint64(i)
		l = append(l, h)
		prev = entry.Hash(h)
	}
	return l
}

func filled(t *testing.T, writer, n int) *Chain {
	t.Helper()
	c := New(writer)
	for _, h := range chain(writer, n) {
		if c.Ask(h) != api.OK || c.Add(h) != api.OK {
			t.Fatal(h)
		}
	}
	return c
}

func TestChainGrows(t *testing.T) {
	c := New(3)
	if c.Writer() != 3 || c.Head() != 0 || c.Tip() != (api.Hash{}) {
		t.Error("new")
	}
	l := chain(3, 5)
	for i, h := range l {
		if e := c.Ask(h); e != api.OK || c.Head() != uint64(i) {
			t.Fatal(e)
		}
		if e := c.Add(h); e != api.OK || c.Head() != uint64(i+1) || c.Tip() != entry.Hash(h) {
			t.Fatal(e)
		}
	}
	for i, h := range l {
		if got, is := c.At(uint64(i + 1)); !is || !entry.Same(got, h) {
			t.Error(i)
		}
	}
	for _, seq := range []uint64{0, 6, 1<<64 - 1} {
		if h, is := c.At(seq); is || !entry.Same(h, entry.Header{}) {
			t.Error(seq)
		}
	}
}

func TestAsksErrors(t *testing.T) {
	c := filled(t, 2, 3)
	l := chain(2, 6)
	asks := func(what string, want api.Errno, h entry.Header) {
		t.Helper()
		if e := c.Ask(h); e != want {
			t.Error(what, e)
		}
		if e := c.Add(h); e != want || c.Head() != 3 || c.Tip() != entry.Hash(l[2]) {
			t.Error(what, e)
		}
	}
	turn := func(h entry.Header, change func(h *entry.Header)) entry.Header {
		change(&h)
		return h
	}
	asks("none", api.ErrArg, entry.Header{})
	asks("not formed", api.ErrArg, turn(l[3], func(h *entry.Header) { h.Size = 5 }))
	asks("of another writer", api.ErrArg, chain(1, 4)[3])
	asks("not formed, of a number that is there", api.ErrArg, turn(l[1], func(h *entry.Header) { h.Knows[1] = 0 }))
	for _, h := range l[:3] {
		asks("the same", api.ErrOld, h)
	}
	asks("another of a number", api.ErrFork, turn(l[1], func(h *entry.Header) { h.Time = 99 }))
	asks("another code", api.ErrFork, turn(l[1], func(h *entry.Header) { h.Code[0] = 1 }))
	asks("another of the first", api.ErrFork, turn(l[0], func(h *entry.Header) { h.Epoch = 1 }))
	asks("a later one", api.ErrState, l[4])
	asks("a later one, linked otherwise", api.ErrState, turn(l[4], func(h *entry.Header) { h.Prev[0]++ }))
	asks("linked otherwise", api.ErrChain, turn(l[3], func(h *entry.Header) { h.Prev[0]++ }))
	asks("linked to none", api.ErrChain, turn(l[3], func(h *entry.Header) { h.Prev = api.Hash{} }))
	if e := New(2).Add(l[1]); e != api.ErrState {
		t.Error("a header of the number 2, put first", e)
	}
	for _, writer := range []int{0, -1, 7} {
		if e := New(writer).Add(l[0]); e != api.ErrArg {
			t.Error(writer, e)
		}
	}
}

func TestFrom(t *testing.T) {
	c := filled(t, 1, 5)
	all := chain(1, 5)
	for _, q := range []struct {
		seq      uint64
		most     int
		from, to int
	}{
		{0, 2, 0, 2}, {1, 2, 0, 2}, {2, 100, 1, 5}, {5, 1, 4, 5}, {5, 9, 4, 5}, {6, 9, 0, 0}, {1<<64 - 1, 9, 0, 0},
		{1, 0, 0, 0}, {1, -1, 0, 0}, {0, 1<<63 - 1, 0, 5}, {3, -1 << 63, 0, 0},
	} {
		l := c.From(q.seq, q.most)
		if len(l) != q.to-q.from {
			t.Error(q, len(l))
			continue
		}
		for i, h := range l {
			if !entry.Same(h, all[q.from+i]) {
				t.Error(q, i)
			}
		}
		if !Linked(l) {
			t.Error(q)
		}
	}
	if len(New(1).From(0, 5)) != 0 {
		t.Error("of none")
	}
}

func TestLinked(t *testing.T) {
	l := chain(4, 6)
	if !Linked(nil) || !Linked(l) || !Linked(l[2:5]) || !Linked(l[5:]) {
		t.Error("linked")
	}
	if Linked([]entry.Header{l[0], l[2]}) || Linked([]entry.Header{l[1], l[0]}) || Linked([]entry.Header{l[1], l[1]}) {
		t.Error("numbers")
	}
	if Linked([]entry.Header{{}}) || Linked([]entry.Header{l[0], {}}) {
		t.Error("not formed")
	}
	other := chain(3, 6)
	if Linked([]entry.Header{l[0], other[1]}) {
		t.Error("writers")
	}
	other[2].Writer, other[2].Prev = 4, entry.Hash(other[1])
	other[2].Knows = [6]uint64{3: 2}
	if Linked(other[1:3]) {
		t.Error("a writer with the other one's hash")
	}
	turned := l[3]
	turned.Prev[7]++
	if Linked([]entry.Header{l[2], turned}) || !Linked([]entry.Header{turned}) {
		t.Error("hashes")
	}
}

func TestMemoryIsNotShared(t *testing.T) {
	c := New(1)
	h := chain(1, 1)[0]
	c.Add(h)
	h.Tokens[0][0] = 9
	got, _ := c.At(1)
	got.Tokens[0][0] = 8
	l := c.From(1, 1)
	l[0].Tokens[0][0] = 7
	if got, _ := c.At(1); got.Tokens[0] != (api.Token{}) || entry.Hash(got) != c.Tip() {
		t.Error("shared")
	}
}
