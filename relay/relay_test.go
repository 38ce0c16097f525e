package relay_test

import (
	"bytes"
	"testing"

	"jalousie/api"
	"jalousie/disk"
	"jalousie/entry"
	"jalousie/filter"
	"jalousie/hash"
	"jalousie/index"
	"jalousie/pack"
	. "jalousie/relay"
	"jalousie/store"
	"jalousie/vector"
)

// pieces are n whole pieces of a writer, one behind the other.
func pieces(writer, n int) []index.Piece {
	var l []index.Piece
	var prev api.Hash
	for i := range n {
		body := bytes.Repeat([]byte{byte(writer), byte(i)}, 40)
		h := entry.Header{Writer: writer, Seq: uint64(i + 1), Prev: prev, Tokens: []api.Token{{byte(i % 3)}}, Size: 80, Sum: hash.Sum(body)}
		h.Knows[writer-1] = uint64(i)
		prev = entry.Hash(h)
		l = append(l, index.Piece{Header: h, Body: body})
	}
	return l
}

// packed is a piece's record.
func packed(p index.Piece) []byte {
	var o pack.Out
	o.Text(entry.Bytes(p.Header))
	o.Text(p.Body)
	b, _ := o.End()
	return b
}

func open(t *testing.T, d *disk.Disk) *Relay {
	t.Helper()
	r, e := Open(d)
	if e != api.OK {
		t.Fatal(e)
	}
	return r
}

func must(t *testing.T, e api.Errno) {
	t.Helper()
	if e != api.OK {
		t.Fatal(e)
	}
}

func same(a, b index.Piece) bool {
	return entry.Same(a.Header, b.Header) && bytes.Equal(a.Body, b.Body)
}

func TestOpensErrors(t *testing.T) {
	if r, e := Open(disk.New(5)); e != api.ErrArg || r != nil {
		t.Error(e)
	}
	d := disk.New(6)
	d.Fuse(0)
	d.Sync()
	if r, e := Open(d); e != api.ErrLost || r != nil {
		t.Error(e)
	}
	good := pieces(1, 2)
	first, second, empty := packed(good[0]), packed(good[1]), packed(index.Piece{Header: good[0].Header})
	for name, l := range map[string][][]byte{
		"no bytes": {nil}, "bytes": {[]byte("abc")}, "cut": {first[:len(first)-1]}, "more": {append(bytes.Clone(first), 0)}, "a stub": {empty},
		"twice": {first, first}, "a gap": {second}, "two texts": {[]byte("\x01a\x01b")},
	} {
		d := disk.New(100)
		s, _ := store.Open(d)
		must(t, s.Add(l...))
		if r, e := Open(d); e != api.ErrForm || r != nil {
			t.Error(name, e)
		}
	}
	d = disk.New(100)
	s, _ := store.Open(d)
	must(t, s.Add(first, second))
	if r := open(t, d); r.Count() != 2 {
		t.Error(r.Count())
	}
}

func TestPushIsToldAndKept(t *testing.T) {
	d := disk.New(400)
	r := open(t, d)
	if r.Count() != 0 || r.Over() || r.Heads() != (vector.Vector{}) {
		t.Error("new")
	}
	l := append(pieces(3, 4), pieces(1, 2)...)
	for _, p := range l {
		must(t, r.Push(p))
		if e := r.Push(p); e != api.ErrOld {
			t.Error(e)
		}
	}
	for _, r := range []*Relay{r, open(t, d)} {
		if r.Count() != 6 || r.Heads() != (vector.Vector{2, 0, 4}) {
			t.Error(r.Count())
		}
		for _, p := range l {
			if got, e := r.Fetch(p.Header.Writer, p.Header.Seq); e != api.OK || !same(got, p) {
				t.Error(e)
			}
		}
		if p, e := r.Fetch(2, 1); e != api.ErrNone || !same(p, index.Piece{}) {
			t.Error(e)
		}
		got := r.Pull(vector.Vector{1}, filter.Wish{Tokens: []api.Token{{0}}}, 3)
		if len(got) != 3 || !entry.Same(got[0].Header, l[5].Header) || len(got[0].Body) != 0 || !same(got[1], l[0]) || len(got[2].Body) != 0 {
			t.Error(len(got))
		}
	}
}

func TestPushsErrors(t *testing.T) {
	d := disk.New(400)
	r := open(t, d)
	l := pieces(1, 4)
	must(t, r.Push(l[0]))
	must(t, r.Push(l[1]))
	refused := func(want api.Errno, p index.Piece, change func(p *index.Piece)) {
		t.Helper()
		change(&p)
		if e := r.Push(p); e != want || r.Count() != 2 || open(t, d).Count() != 2 {
			t.Error(want, e)
		}
	}
	refused(api.ErrArg, l[2], func(p *index.Piece) { p.Header.Writer = 0 })
	refused(api.ErrOld, l[1], func(p *index.Piece) {})
	refused(api.ErrFork, l[1], func(p *index.Piece) { p.Header.Time = 8 })
	refused(api.ErrState, l[3], func(p *index.Piece) {})
	refused(api.ErrChain, l[2], func(p *index.Piece) { p.Header.Prev = api.Hash{} })
	refused(api.ErrForm, l[2], func(p *index.Piece) { p.Body = nil })
	must(t, r.Push(l[2]))
}

func TestFull(t *testing.T) {
	r := open(t, disk.New(20))
	l := pieces(1, 5)
	must(t, r.Push(l[0]))
	must(t, r.Push(l[1]))
	if e := r.Push(l[2]); e != api.ErrFull || r.Count() != 2 || r.Over() {
		t.Error("the store has no room", e)
	}
	r = open(t, disk.New(api.MaxSectors))
	l = pieces(1, 401)
	for _, p := range l[:400] {
		must(t, r.Push(p))
	}
	if e := r.Push(l[400]); e != api.ErrFull || r.Count() != 400 {
		t.Error("the index has no room", e)
	}
}

// A push that is cut off is there or not; what was answered OK, or told, is.
func TestCrashes(t *testing.T) {
	l := pieces(1, 3)
	for fuse, done := 0, false; !done; fuse++ {
		for fate := range 256 {
			d := disk.New(60)
			r := open(t, d)
			must(t, r.Push(l[0]))
			d.Fuse(fuse)
			e := r.Push(l[1])
			done = e == api.OK
			if e != api.OK && (e != api.ErrLost || !r.Over() || r.Count() != 1 || r.Push(l[1]) != api.ErrLost) {
				t.Fatal(e, r.Count())
			}
			told := r.Count()
			d.Crash([]byte{byte(fate), byte(fate * 3)})
			again := open(t, d)
			if again.Count() < told || again.Count() > 2 {
				t.Fatal(fuse, fate, again.Count())
			}
			if e := again.Push(l[1]); e != api.OK && e != api.ErrOld {
				t.Fatal(e)
			}
			must(t, again.Push(l[2]))
			for i, p := range l {
				if got, e := open(t, d).Fetch(1, uint64(i+1)); e != api.OK || !same(got, p) {
					t.Fatal(e)
				}
			}
		}
	}
}
