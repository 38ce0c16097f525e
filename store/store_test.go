package store_test

import (
	"bytes"
	"slices"
	"testing"

	"jalousie/api"
	"jalousie/cells"
	"jalousie/disk"
	. "jalousie/store"
)

func open(t *testing.T, d *disk.Disk) *Store {
	t.Helper()
	s, e := Open(d)
	if e != api.OK {
		t.Fatal(e)
	}
	return s
}

func must(t *testing.T, e api.Errno) {
	t.Helper()
	if e != api.OK {
		t.Fatal(e)
	}
}

func same(a, b [][]byte) bool {
	return slices.EqualFunc(a, b, bytes.Equal)
}

func holds(t *testing.T, s *Store, generation uint64, l ...string) {
	t.Helper()
	if s.Generation() != generation || !same(s.Records(), texts(l...)) {
		t.Errorf("%d %q, want %d %q", s.Generation(), s.Records(), generation, l)
	}
}

func texts(l ...string) [][]byte {
	var out [][]byte
	for _, s := range l {
		out = append(out, []byte(s))
	}
	return out
}

// note is a log's, of a generation.
func note(generation uint64) [16]byte {
	var n [16]byte
	for i := range 8 {
		n[i] = byte(generation >> (56 - 8*i))
	}
	return n
}

// lay gives a log a note and bytes, and a serial by its head's bytes.
func lay(t *testing.T, d *disk.Disk, from, sectors int, b []byte, generation uint64) {
	t.Helper()
	l, e := cells.Open(d, from, sectors)
	must(t, e)
	must(t, l.Append(b, note(generation)))
}

func serial(t *testing.T, d *disk.Disk, from int, x uint64, generation uint64) {
	t.Helper()
	b := make([]byte, 64)
	for i := range 8 {
		b[i], b[i+32] = byte(x>>(56-8*i)), byte(x>>(56-8*i))
		b[i+16], b[i+48] = byte(generation>>(56-8*i)), byte(generation>>(56-8*i))
	}
	must(t, d.Write(from+int(x%2), b))
	must(t, d.Sync())
}

func TestOpen(t *testing.T) {
	for n := range 6 {
		if s, e := Open(disk.New(n)); e != api.ErrArg || s != nil {
			t.Error(n, e)
		}
	}
	for _, c := range [][2]int{{6, 64}, {7, 64}, {8, 128}, {20, 512}} {
		s := open(t, disk.New(c[0]))
		holds(t, s, 0)
		if s.Room() != c[1] || s.Over() {
			t.Error(c, s.Room())
		}
	}
	d := disk.New(5)
	d.Fuse(0)
	d.Sync()
	if _, e := Open(d); e != api.ErrArg {
		t.Error(e)
	}
	d = disk.New(6)
	d.Fuse(0)
	d.Sync()
	if s, e := Open(d); e != api.ErrLost || s != nil {
		t.Error(e)
	}
}

func TestAdd(t *testing.T) {
	d := disk.New(9)
	s := open(t, d)
	a := []byte("aa")
	must(t, s.Add(a, nil))
	a[0] = 'b'
	must(t, s.Add([]byte("c")))
	holds(t, s, 0, "aa", "", "c")
	holds(t, open(t, d), 0, "aa", "", "c")
	if s.Room() != 128-6 {
		t.Error(s.Room())
	}
	if e := s.Add(make([]byte, 60), make([]byte, 61)); e != api.ErrFull {
		t.Error(e)
	}
	if e := s.Add(make([]byte, 4000), make([]byte, 4097)); e != api.ErrLong {
		t.Error("long comes ahead of full", e)
	}
	holds(t, s, 0, "aa", "", "c")
	must(t, s.Add(make([]byte, 60), make([]byte, 60)))
	if s.Room() != 0 || len(s.Records()) != 5 {
		t.Error(s.Room())
	}
	if e := s.Add(nil); e != api.ErrFull {
		t.Error("a record of no bytes has one", e)
	}
	d.Fuse(0)
	must(t, s.Add())
	if d.Gone() {
		t.Error("of none nothing is done")
	}
	s.Records()[0][0] = 'z'
	if s.Records()[0][0] != 'a' {
		t.Error("what is answered is new memory")
	}
}

func TestTheLongestRecord(t *testing.T) {
	d := disk.New(200)
	s := open(t, d)
	long := bytes.Repeat([]byte{7}, api.MaxBytes)
	must(t, s.Add(long))
	if !same(open(t, d).Records(), [][]byte{long}) {
		t.Error("a record of MaxBytes")
	}
}

func TestCompact(t *testing.T) {
	d := disk.New(8)
	s := open(t, d)
	must(t, s.Add(texts("a", "b", "c")...))
	must(t, s.Compact(texts("b", "d")))
	holds(t, s, 1, "b", "d")
	holds(t, open(t, d), 1, "b", "d")
	must(t, s.Add([]byte("e")))
	holds(t, open(t, d), 1, "b", "d", "e")
	must(t, s.Compact(nil))
	holds(t, s, 2)
	holds(t, open(t, d), 2)
	must(t, s.Compact(texts(string(make([]byte, 127)))))
	holds(t, open(t, d), 3, string(make([]byte, 127)))
	if e := s.Compact(texts(string(make([]byte, 128)))); e != api.ErrFull {
		t.Error(e)
	}
	if e := s.Compact([][]byte{make([]byte, 128), make([]byte, 4097)}); e != api.ErrLong {
		t.Error(e)
	}
	holds(t, s, 3, string(make([]byte, 127)))
	must(t, s.Compact(texts("x")))
	holds(t, open(t, d), 4, "x")
}

func TestWhichLog(t *testing.T) {
	for _, c := range []struct {
		first, second uint64
		want          string
	}{{0, 0, "1"}, {5, 5, "1"}, {5, 6, "2"}, {6, 5, "1"}, {1 << 63, 1<<63 + 1, "2"}} {
		d := disk.New(9)
		lay(t, d, 0, 4, []byte("\x011"), c.first)
		lay(t, d, 4, 4, []byte("\x012"), c.second)
		holds(t, open(t, d), max(c.first, c.second), c.want)
	}
}

func TestBytesThatAreNoTexts(t *testing.T) {
	d := disk.New(6)
	lay(t, d, 0, 3, []byte("\x01a\x00\x05bc"), 0)
	s := open(t, d)
	holds(t, s, 0, "a", "")
	if s.Room() != 58 {
		t.Error(s.Room())
	}
	must(t, s.Add([]byte("de")))
	holds(t, s, 0, "a", "", "bc\x02de")
	holds(t, open(t, d), 0, "a", "", "bc\x02de")
}

func TestSpent(t *testing.T) {
	d := disk.New(6)
	serial(t, d, 0, 1<<62, 0)
	s := open(t, d)
	if e := s.Add([]byte("a")); e != api.ErrSpent || s.Over() {
		t.Error(e)
	}
	if e := s.Add(make([]byte, 64)); e != api.ErrFull {
		t.Error("full comes ahead of spent", e)
	}
	if e := s.Compact(nil); e != api.ErrSpent {
		t.Error(e)
	}
	for from := 0; from <= 3; from += 3 {
		for _, c := range []struct {
			x    uint64
			want api.Errno
		}{{1<<62 - 3, api.OK}, {1<<62 - 2, api.ErrSpent}, {1<<62 - 1, api.ErrSpent}} {
			d := disk.New(6)
			serial(t, d, from, c.x, 0)
			s := open(t, d)
			if e := s.Compact(texts("a")); e != c.want {
				t.Error(from, c.x, e)
			}
			must(t, s.Add([]byte("b")))
		}
	}
	for _, c := range []struct {
		x    uint64
		want api.Errno
	}{{1<<62 - 3, api.OK}, {1<<62 - 2, api.ErrSpent}, {1<<64 - 1, api.ErrSpent}} {
		d := disk.New(6)
		serial(t, d, 3, 7, c.x)
		if e := open(t, d).Compact(texts("a")); e != c.want {
			t.Error("generation", c.x, e)
		}
	}
}

func TestOver(t *testing.T) {
	for n := range 2 {
		d := disk.New(8)
		s := open(t, d)
		must(t, s.Add([]byte("a")))
		d.Fuse(1)
		change := func(b []byte) api.Errno {
			if n == 0 {
				return s.Add(b)
			}
			return s.Compact([][]byte{b})
		}
		if e := change([]byte("b")); e != api.ErrLost || !s.Over() {
			t.Error(n, e)
		}
		d.Crash(nil)
		if e := change(make([]byte, 5000)); e != api.ErrLost {
			t.Error("over comes first", e)
		}
		if s.Add() != api.ErrLost || s.Compact(nil) != api.ErrLost {
			t.Error("over")
		}
		holds(t, s, 0, "a")
	}
}

func TestCrashes(t *testing.T) {
	changes := []struct {
		do         func(s *Store) api.Errno
		generation uint64
		want       []string
	}{
		{func(s *Store) api.Errno { return s.Add(texts("dd", string(make([]byte, 70)))...) }, 1, []string{"b", "c", "dd", string(make([]byte, 70))}},
		{func(s *Store) api.Errno { return s.Compact(texts("c", string(make([]byte, 100)))) }, 2, []string{"c", string(make([]byte, 100))}},
		{func(s *Store) api.Errno { return s.Compact(nil) }, 2, nil},
	}
	for n, c := range changes {
		for fuse, done := 0, false; !done; fuse++ {
			for fate := range 256 {
				d := disk.New(10)
				s := open(t, d)
				must(t, s.Add(texts("a", string(make([]byte, 90)))...))
				must(t, s.Compact(texts("b")))
				must(t, s.Add([]byte("c")))
				d.Fuse(fuse)
				e := c.do(s)
				done = e == api.OK
				d.Crash([]byte{byte(fate), byte(fate * 5), byte(fate * 11)})
				again := open(t, d)
				if !done && again.Generation() == 1 && same(again.Records(), texts("b", "c")) {
					must(t, c.do(again))
				}
				holds(t, again, c.generation, c.want...)
				must(t, again.Add([]byte("e")))
				holds(t, open(t, d), c.generation, append(slices.Clone(c.want), "e")...)
			}
			if fuse > 50 {
				t.Fatal("no end", n)
			}
		}
	}
}

// draw is a number below n, the same ones each time.
func draw(x *uint64, n int) int {
	*x = *x*6364136223846793005 + 1442695040888963407
	return int(*x>>33) % n
}

// Many calls that are cut off, one behind the other, with unlike fates: each is done or not.
func TestManyCuts(t *testing.T) {
	x := uint64(1)
	sizes := []int{0, 1, 15, 31, 47, 111, 250}
	for range 4000 {
		d := disk.New(32)
		s := open(t, d)
		for i := range 20 {
			was, generation := s.Records(), s.Generation()
			size := sizes[draw(&x, len(sizes))]
			l := [][]byte{bytes.Repeat([]byte{byte(i)}, size)}
			next, then := append(slices.Clone(was), l...), generation
			d.Fuse((size+65)/64 + draw(&x, 7) - 1)
			var e api.Errno
			if draw(&x, 6) == 0 {
				next, then = l, generation+1
				e = s.Compact(l)
			} else {
				e = s.Add(l...)
			}
			d.Crash([]byte{byte(draw(&x, 256)), byte(draw(&x, 256))})
			s = open(t, d)
			switch {
			case s.Generation() == then && same(s.Records(), next) && (e == api.OK || e == api.ErrLost):
			case s.Generation() == generation && same(s.Records(), was) && e != api.OK:
			default:
				t.Fatal(e, s.Generation(), generation, then, len(s.Records()), len(was))
			}
		}
	}
}
