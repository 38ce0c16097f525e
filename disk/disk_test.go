package disk_test

import (
	"bytes"
	"testing"

	"jalousie/api"
	. "jalousie/disk"
)

func full(c byte) []byte {
	return bytes.Repeat([]byte{c}, api.Sector)
}

func must(t *testing.T, e api.Errno) {
	t.Helper()
	if e != api.OK {
		t.Fatal(e)
	}
}

func reads(t *testing.T, d *Disk, i int, want []byte) {
	t.Helper()
	b, e := d.Read(i)
	if e != api.OK || !bytes.Equal(b, want) {
		t.Error(i, e, b)
	}
}

func TestNew(t *testing.T) {
	for _, c := range [][2]int{{-1, 0}, {-1 << 63, 0}, {0, 0}, {1, 1}, {16384, 16384}, {16385, 16384}, {1<<63 - 1, 16384}} {
		if d := New(c[0]); d.Sectors() != c[1] || d.Loose() != 0 || d.Gone() {
			t.Error(c, d.Sectors())
		}
	}
	reads(t, New(3), 2, full(0))
}

func TestArguments(t *testing.T) {
	d := New(2)
	d.Fuse(1)
	for _, i := range []int{-1, 2, 1<<63 - 1, -1 << 63} {
		if b, e := d.Read(i); e != api.ErrArg || len(b) > 0 {
			t.Error(i, e)
		}
		if e := d.Write(i, full(1)); e != api.ErrArg {
			t.Error(i, e)
		}
	}
	for _, b := range [][]byte{nil, full(1)[:63], append(full(1), 1)} {
		if e := d.Write(0, b); e != api.ErrArg {
			t.Error(len(b), e)
		}
	}
	if d.Gone() || d.Loose() != 0 {
		t.Error("a call with ErrArg counts for nothing")
	}
	must(t, d.Write(0, full(1)))
	if e := d.Write(2, full(1)); e != api.ErrArg || d.Gone() {
		t.Error(e)
	}
	if e := d.Write(0, full(2)); e != api.ErrLost || !d.Gone() {
		t.Error(e)
	}
	if _, e := d.Read(2); e != api.ErrArg {
		t.Error("a sector that isn't there comes first", e)
	}
	if _, e := d.Read(0); e != api.ErrLost {
		t.Error(e)
	}
	if e := d.Write(0, nil); e != api.ErrArg {
		t.Error(e)
	}
}

func TestWriteStandsAtOnce(t *testing.T) {
	d := New(3)
	b := full(5)
	must(t, d.Write(1, b))
	b[0] = 6
	reads(t, d, 1, full(5))
	got, _ := d.Read(1)
	got[0] = 7
	reads(t, d, 1, full(5))
	must(t, d.Write(1, full(8)))
	must(t, d.Write(0, full(0)))
	if d.Loose() != 2 {
		t.Error(d.Loose())
	}
	must(t, d.Sync())
	if d.Loose() != 0 {
		t.Error(d.Loose())
	}
	d.Crash([]byte{0})
	reads(t, d, 1, full(8))
	reads(t, d, 2, full(0))
}

func TestFuse(t *testing.T) {
	for n := range 5 {
		d := New(2)
		d.Fuse(n)
		for i := range n {
			if i%2 == 0 {
				must(t, d.Write(0, full(byte(i+1))))
			} else {
				must(t, d.Sync())
			}
		}
		loose := d.Loose()
		if d.Gone() {
			t.Error(n)
		}
		if e := d.Sync(); e != api.ErrLost || !d.Gone() || d.Loose() != loose {
			t.Error(n, e)
		}
		d.Fuse(-1)
		d.Fuse(5)
		if e := d.Write(0, full(9)); e != api.ErrLost || !d.Gone() {
			t.Error("a power that is gone stays so", e)
		}
		d.Crash([]byte{64})
		want := byte(0)
		if n > 0 {
			want = byte((n-1)/2*2 + 1)
		}
		reads(t, d, 0, full(want))
		for range 20 {
			must(t, d.Write(0, full(1)))
			must(t, d.Sync())
		}
	}
	d := New(1)
	d.Fuse(0)
	d.Fuse(-7)
	must(t, d.Sync())
	d.Fuse(1)
	d.Fuse(2)
	must(t, d.Sync())
	must(t, d.Sync())
	if d.Sync() != api.ErrLost {
		t.Error("the last fuse holds")
	}
}

func TestFates(t *testing.T) {
	for _, c := range []struct {
		k         byte
		from, end int // which bytes stay as they were written last
	}{
		{0, 0, 0}, {1, 0, 1}, {63, 0, 63}, {64, 0, 64}, {65, 0, 64}, {127, 0, 64},
		{128, 0, 0}, {129, 63, 64}, {130, 62, 64}, {191, 1, 64}, {192, 0, 64}, {193, 0, 64}, {255, 0, 64},
	} {
		d := New(1)
		must(t, d.Write(0, full(3)))
		must(t, d.Sync())
		must(t, d.Write(0, full(4)))
		must(t, d.Write(0, full(5)))
		d.Crash([]byte{c.k})
		want := full(3)
		copy(want[c.from:c.end], full(5))
		reads(t, d, 0, want)
		if d.Loose() != 0 {
			t.Error("loose")
		}
		d.Crash([]byte{0})
		reads(t, d, 0, want)
	}
}

func TestFatesGoRound(t *testing.T) {
	d := New(20)
	for _, i := range []int{17, 3, 11, 0, 8} {
		must(t, d.Write(i, full(1)))
	}
	fate := []byte{64, 0}
	d.Crash(fate)
	for i, want := range map[int]byte{0: 1, 3: 0, 8: 1, 11: 0, 17: 1, 5: 0} {
		reads(t, d, i, full(want))
	}
	must(t, d.Write(0, full(2)))
	must(t, d.Write(1, full(2)))
	d.Crash(nil)
	reads(t, d, 0, full(1))
	reads(t, d, 1, full(0))
}

func TestCrashWhileLost(t *testing.T) {
	d := New(2)
	must(t, d.Write(0, full(1)))
	d.Fuse(0)
	d.Write(1, full(1))
	if d.Loose() != 1 {
		t.Error(d.Loose())
	}
	d.Crash([]byte{130})
	want := full(0)
	want[62], want[63] = 1, 1
	reads(t, d, 0, want)
	reads(t, d, 1, full(0))
	if d.Gone() {
		t.Error("the power is there")
	}
}
