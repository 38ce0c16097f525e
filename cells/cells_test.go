package cells_test

import (
	"bytes"
	"testing"

	"jalousie/api"
	. "jalousie/cells"
	"jalousie/disk"
)

func open(t *testing.T, d *disk.Disk, from, sectors int) *Log {
	t.Helper()
	l, e := Open(d, from, sectors)
	if e != api.OK {
		t.Fatal(e)
	}
	return l
}

func must(t *testing.T, e api.Errno) {
	t.Helper()
	if e != api.OK {
		t.Fatal(e)
	}
}

func state(t *testing.T, l *Log, serial uint64, b []byte, note byte) {
	t.Helper()
	if l.Serial() != serial || !bytes.Equal(l.Bytes(), b) || l.Note() != [16]byte{note} {
		t.Errorf("%d %v %v, want %d %v %d", l.Serial(), l.Bytes(), l.Note(), serial, b, note)
	}
}

func run(n, from int) []byte {
	b := make([]byte, n)
	for i := range b {
		b[i] = byte(i + from)
	}
	return b
}

func TestOpensArguments(t *testing.T) {
	d := disk.New(10)
	for _, c := range [][2]int{{0, 2}, {0, -1}, {-1, 5}, {0, 11}, {8, 3}, {1, 10}, {10, 3}, {1<<63 - 1, 3}, {3, 1<<63 - 1}, {1<<63 - 1, 1<<63 - 1}, {-1 << 63, 3}} {
		if l, e := Open(d, c[0], c[1]); e != api.ErrArg || l != nil {
			t.Error(c, e)
		}
	}
	l := open(t, d, 7, 3)
	state(t, l, 0, nil, 0)
	if l.Room() != 64 || l.Over() {
		t.Error(l.Room())
	}
	if l := open(t, d, 0, 10); l.Room() != 512 {
		t.Error(l.Room())
	}
	d.Fuse(0)
	d.Sync()
	if l, e := Open(d, 0, 3); e != api.ErrLost || l != nil {
		t.Error(e)
	}
	if _, e := Open(d, 0, 2); e != api.ErrArg {
		t.Error(e)
	}
}

func TestAppendAndClear(t *testing.T) {
	d := disk.New(9)
	l := open(t, d, 2, 6)
	all := []byte{}
	for i, n := range []int{0, 1, 62, 1, 1, 100, 64, 27} {
		b := append(run(n, i), 99)[:n]
		must(t, l.Append(b, [16]byte{byte(i + 1)}))
		all = append(all, b...)
		if n > 0 {
			b[0]++
		}
		state(t, l, uint64(i+1), all, byte(i+1))
		state(t, open(t, d, 2, 6), uint64(i+1), all, byte(i+1))
		if l.Room() != 256-len(all) || d.Loose() != 0 {
			t.Error(l.Room(), d.Loose())
		}
	}
	if e := l.Append([]byte{1}, [16]byte{50}); e != api.ErrFull {
		t.Error(e)
	}
	must(t, l.Append(nil, [16]byte{9}))
	must(t, l.Clear())
	state(t, l, 10, nil, 9)
	if e := l.Append(make([]byte, 257), [16]byte{50}); e != api.ErrFull {
		t.Error(e)
	}
	must(t, l.Append(run(256, 7), [16]byte{3}))
	state(t, l, 11, run(256, 7), 3)
	state(t, open(t, d, 2, 6), 11, run(256, 7), 3)
	for _, i := range []int{0, 1, 8} {
		if b, _ := d.Read(i); !bytes.Equal(b, make([]byte, 64)) {
			t.Error("a log stays on its sectors", i)
		}
	}
	l.Bytes()[0] = 0
	if l.Bytes()[0] != 7 {
		t.Error("what is answered is new memory")
	}
}

func TestWhereItStands(t *testing.T) {
	d := disk.New(4)
	l := open(t, d, 1, 3)
	must(t, l.Append([]byte("abc"), [16]byte{0: 4, 15: 5}))
	half := append([]byte{7: 1, 15: 3}, 4, 0, 0, 0, 0, 0, 0, 0, 0, 0, 0, 0, 0, 0, 0, 5)
	if b, _ := d.Read(2); !bytes.Equal(b, append(bytes.Clone(half), half...)) {
		t.Error("the serial 1 stands in the second head", b)
	}
	if b, _ := d.Read(1); !bytes.Equal(b, make([]byte, 64)) {
		t.Error(b)
	}
	if b, _ := d.Read(3); string(b[:4]) != "abc\x00" {
		t.Error(b)
	}
	must(t, l.Append([]byte("d"), [16]byte{}))
	if b, _ := d.Read(1); b[7] != 2 || b[15] != 4 || b[39] != 2 {
		t.Error("the serial 2 stands in the first", b)
	}
}

// lay writes a head by hand.
func lay(t *testing.T, d *disk.Disk, place int, serial, count uint64, note byte) {
	t.Helper()
	var half []byte
	for _, x := range []uint64{serial, count} {
		for i := range 8 {
			half = append(half, byte(x>>(56-8*i)))
		}
	}
	half = append(append(half, note), make([]byte, 15)...)
	must(t, d.Write(place, append(half, half...)))
}

func TestHeadsThatAreNone(t *testing.T) {
	d := disk.New(4)
	must(t, d.Write(2, run(64, 1)))
	lay(t, d, 0, 3, 5, 1)
	state(t, open(t, d, 0, 4), 0, nil, 0)
	lay(t, d, 1, 4, 5, 1)
	state(t, open(t, d, 0, 4), 0, nil, 0)
	lay(t, d, 1, 5, 129, 1)
	state(t, open(t, d, 0, 4), 0, nil, 0)
	lay(t, d, 1, 5, 1<<63, 1)
	state(t, open(t, d, 0, 4), 0, nil, 0)
	lay(t, d, 1, 5, 128, 6)
	state(t, open(t, d, 0, 4), 5, append(run(64, 1), make([]byte, 64)...), 6)
	lay(t, d, 0, 4, 3, 7)
	state(t, open(t, d, 0, 4), 5, append(run(64, 1), make([]byte, 64)...), 6)
	lay(t, d, 0, 6, 3, 7)
	state(t, open(t, d, 0, 4), 6, run(3, 1), 7)
	for i := range 64 {
		lay(t, d, 0, 6, 3, 7)
		b, _ := d.Read(0)
		b[i] ^= 64
		must(t, d.Write(0, b))
		state(t, open(t, d, 0, 4), 5, append(run(64, 1), make([]byte, 64)...), 6)
	}
	lay(t, d, 0, 0, 2, 8)
	must(t, d.Write(1, run(64, 0)))
	state(t, open(t, d, 0, 4), 0, run(2, 1), 8)
}

func TestSpent(t *testing.T) {
	d := disk.New(3)
	lay(t, d, 1, 1<<62-1, 0, 1)
	l := open(t, d, 0, 3)
	must(t, l.Append(run(64, 1), [16]byte{2}))
	state(t, l, 1<<62, run(64, 1), 2)
	if e := l.Append(nil, [16]byte{3}); e != api.ErrSpent {
		t.Error(e)
	}
	if e := l.Append([]byte{1}, [16]byte{3}); e != api.ErrSpent {
		t.Error("spent comes ahead of full", e)
	}
	if e := l.Clear(); e != api.ErrSpent {
		t.Error(e)
	}
	state(t, l, 1<<62, run(64, 1), 2)
	lay(t, d, 1, 1<<64-1, 0, 1)
	if e := open(t, d, 0, 3).Append(nil, [16]byte{}); e != api.ErrSpent {
		t.Error(e)
	}
}

func TestOver(t *testing.T) {
	d := disk.New(5)
	l := open(t, d, 0, 5)
	must(t, l.Append(run(10, 1), [16]byte{1}))
	d.Fuse(0)
	if e := l.Append(make([]byte, 183), [16]byte{2}); e != api.ErrFull || l.Over() {
		t.Error(e)
	}
	if e := l.Append(run(5, 1), [16]byte{2}); e != api.ErrLost || !l.Over() {
		t.Error(e)
	}
	d.Crash(nil)
	if e := l.Append(make([]byte, 1000), [16]byte{2}); e != api.ErrLost {
		t.Error("over comes first", e)
	}
	if e := l.Clear(); e != api.ErrLost {
		t.Error(e)
	}
	state(t, l, 1, run(10, 1), 1)
	if l.Room() != 182 {
		t.Error(l.Room())
	}
}

// A change that is cut off at each of its steps, with torn sectors, is done or not.
func TestCrashes(t *testing.T) {
	changes := []func(l *Log) api.Errno{
		func(l *Log) api.Errno { return l.Append(run(150, 100), [16]byte{2}) },
		func(l *Log) api.Errno { return l.Append(run(3, 100), [16]byte{2}) },
		func(l *Log) api.Errno { return l.Append(nil, [16]byte{2}) },
		func(l *Log) api.Errno { return l.Clear() },
	}
	for n, change := range changes {
		for _, first := range []int{0, 1, 64, 90} {
			for fuse := 0; ; fuse++ {
				done := true
				for fate := range 256 {
					d := disk.New(6)
					l := open(t, d, 0, 6)
					must(t, l.Append(run(20, 5), [16]byte{9}))
					must(t, l.Clear())
					must(t, l.Append(run(first, 1), [16]byte{1}))
					d.Fuse(fuse)
					e := change(l)
					done = e == api.OK
					d.Crash([]byte{byte(fate), byte(fate * 7), byte(fate * 3)})
					again := open(t, d, 0, 6)
					switch {
					case again.Serial() == 3 && !done:
						state(t, again, 3, run(first, 1), 1)
					case n == 3:
						state(t, again, 4, nil, 1)
					default:
						size := []int{150, 3, 0}[n]
						state(t, again, 4, append(run(first, 1), run(size, 100)...), 2)
					}
					must(t, again.Append([]byte("more"), [16]byte{3}))
					if more := open(t, d, 0, 6); !bytes.Equal(more.Bytes(), again.Bytes()) || !bytes.HasSuffix(more.Bytes(), []byte("more")) {
						t.Fatal("it goes on")
					}
				}
				if done {
					break
				}
			}
		}
	}
}
