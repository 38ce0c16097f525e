package device_test

import (
	"fmt"
	"strings"
	"testing"

	"jalousie/api"
	"jalousie/box"
	. "jalousie/device"
	"jalousie/disk"
	"jalousie/entry"
	"jalousie/filter"
	"jalousie/index"
	"jalousie/proof"
	"jalousie/store"
	"jalousie/vector"
)

// busy is a device on a disk that holds something of every kind, and pieces that it may take.
func busy(t *testing.T, x *box.Box, d *disk.Disk) (*Device, []index.Piece) {
	t.Helper()
	a, b := open(t, x, 1, d), fresh(t, x, 2)
	must(t, a.Control(1, 0))
	must(t, a.Control(2, 2))
	must(t, a.SetFilter(filter.Filter{Tags: []string{"x", "y"}}))
	pass(a, b, all)
	for i := range 4 {
		must(t, b.Change(put(fmt.Sprint("n", i), "v", "x")))
	}
	var l []index.Piece
	for s := uint64(1); s <= 4; s++ {
		p, _ := b.Piece(2, s)
		l = append(l, p)
	}
	must(t, a.Take(l[0]))
	must(t, a.Take(index.Piece{Header: l[1].Header}))
	must(t, a.Take(index.Piece{Header: l[2].Header}))
	must(t, a.Change(put("own", "v", "y")))
	must(t, a.Take(l[2]))
	must(t, a.Lift(2, vector.Vector{1, 2}))
	must(t, a.Lift(2, vector.Vector{3, 2}))
	_, e := a.Begin()
	must(t, e)
	return a, l
}

func TestOpenedAgain(t *testing.T) {
	for _, x := range boxes() {
		d := disk.New(400)
		a, _ := busy(t, x, d)
		want, draws := state(a), x.Draws()
		if got := state(open(t, x, 1, d)); got != want {
			t.Errorf("%s\nwant %s", got, want)
		}
		before := room(t, d)
		must(t, a.Compact())
		if state(a) != want || room(t, d) <= before {
			t.Error("compact", before, room(t, d))
		}
		again := open(t, x, 1, d)
		if state(again) != want || x.Draws() != draws {
			t.Error("compact, and open")
		}
		must(t, again.Raise(proof.Proof{Kind: 3, Writer: 1, Floor: 3, Head: 2}))
		must(t, again.Compact())
		if got := state(open(t, x, 1, d)); got != state(again) {
			t.Error("alarm")
		}
		if n, e := open(t, x, 1, d).Begin(); e != api.OK || n != 2 {
			t.Error("lives", n, e)
		}
		must(t, again.Change(put("more", "v")))
		must(t, again.Control(5, 2))
		if got := state(open(t, x, 1, d)); got != state(again) {
			t.Error("more")
		}
	}
}

// room is how much the store on a disk has.
func room(t *testing.T, d *disk.Disk) int {
	t.Helper()
	s, e := store.Open(d)
	must(t, e)
	return s.Room()
}

// calls are one of each that holds something.
func calls(t *testing.T, x *box.Box, l []index.Piece) map[string]func(d *Device) api.Errno {
	return map[string]func(d *Device) api.Errno{
		"control":  func(d *Device) api.Errno { return d.Control(4, 0) },
		"remove":   func(d *Device) api.Errno { return d.Control(3, 2) },
		"hand":     func(d *Device) api.Errno { return d.Control(5, 2) },
		"change":   func(d *Device) api.Errno { return d.Change(put("late", strings.Repeat("v", 300), "x", "y")) },
		"filter":   func(d *Device) api.Errno { return d.SetFilter(filter.Filter{All: true}) },
		"take":     func(d *Device) api.Errno { return d.Take(l[3]) },
		"stub":     func(d *Device) api.Errno { return d.Take(index.Piece{Header: l[3].Header}) },
		"body":     func(d *Device) api.Errno { return d.Take(l[1]) },
		"raise":    func(d *Device) api.Errno { return d.Raise(proof.Proof{Kind: 3, Writer: 2, Floor: 9, Head: 2}) },
		"lift":     func(d *Device) api.Errno { return d.Lift(1, vector.Vector{1}) },
		"compact":  func(d *Device) api.Errno { return d.Compact() },
		"begin":    func(d *Device) api.Errno { _, e := d.Begin(); return e },
		"accuse":   func(d *Device) api.Errno { return okIf(api.ErrFork, d.Take(forked(t, x, d, l[0]))) },
		"accuse 2": func(d *Device) api.Errno { return okIf(api.ErrChain, d.Take(unlinked(t, x, d))) },
	}
}

// okIf is OK of the error that is wanted.
func okIf(want, e api.Errno) api.Errno {
	if e == want {
		return api.OK
	}
	return e
}

func forked(t *testing.T, x *box.Box, d *Device, p index.Piece) index.Piece {
	return forged(t, x, d, []byte("other"), func(h *entry.Header) { h.Time = p.Header.Time + 7 })
}

func unlinked(t *testing.T, x *box.Box, d *Device) index.Piece {
	return forged(t, x, d, []byte("other"), func(h *entry.Header) { h.Seq, h.Knows[1], h.Prev = 4, 3, api.Hash{1} })
}

// Behind any crash a device holds what it held ahead of the call that was cut off, or behind it.
func TestCrashes(t *testing.T) {
	x := box.New(false, api.Hash{})
	first := disk.New(400)
	_, l := busy(t, x, first)
	for name, call := range calls(t, x, l) {
		twin := open(t, x, 1, doubled(t, first))
		is(t, call(twin), api.OK)
		after := state(twin)
		for fuse, done := 0, false; !done; fuse++ {
			for fate := 0; fate < 256; fate += 17 {
				d := doubled(t, first)
				a := open(t, x, 1, d)
				before := state(a)
				d.Fuse(fuse)
				e := call(a)
				done = e == api.OK
				if !done && (e != api.ErrLost || !a.Over() || state(a) != before) {
					t.Fatal(name, fuse, e)
				}
				d.Crash([]byte{byte(fate), byte(fate * 3), byte(fate * 7)})
				again := open(t, x, 1, d)
				if got := state(again); got != after && (done || got != before) {
					t.Fatalf("%s %d %d: %s\nwant %s", name, fuse, fate, got, after)
				}
				n, e := again.Begin()
				must(t, e)
				if n != 2 && name != "begin" || n < 2 || n > 3 || done && name == "begin" && n != 3 {
					t.Fatal(name, "lives", n)
				}
			}
			if fuse > 100 {
				t.Fatal("no end", name)
			}
		}
	}
}

// doubled is a disk that has the same sectors.
func doubled(t *testing.T, d *disk.Disk) *disk.Disk {
	t.Helper()
	other := disk.New(d.Sectors())
	for i := range d.Sectors() {
		b, _ := d.Read(i)
		must(t, other.Write(i, b))
	}
	must(t, other.Sync())
	return other
}

func TestOver(t *testing.T) {
	x := box.New(true, api.Hash{5})
	for _, alarmed := range []bool{false, true} {
		d := disk.New(400)
		a, l := busy(t, x, d)
		all := calls(t, x, l)
		if alarmed {
			must(t, a.Raise(proof.Proof{Kind: 3, Writer: 1, Floor: 2}))
		}
		fork, chain := forked(t, x, a, l[0]), unlinked(t, x, a)
		all["accuse"] = func(d *Device) api.Errno { return d.Take(fork) }
		all["accuse 2"] = func(d *Device) api.Errno { return d.Take(chain) }
		d.Fuse(0)
		is(t, a.Lift(0, vector.Vector{1}), api.ErrLost)
		d.Crash(nil)
		before := state(a)
		if !a.Over() {
			t.Error("over")
		}
		for name, call := range all {
			want := api.ErrLost
			if alarmed {
				switch name {
				case "raise":
					want = api.ErrOld
				case "accuse":
					want = api.ErrFork
				case "accuse 2":
					want = api.ErrChain
				}
			}
			if e := call(a); e != want {
				t.Error(name, e)
			}
		}
		is(t, a.Lift(2, vector.Vector{}), api.ErrLost)
		is(t, a.Lift(5, vector.Vector{}), api.ErrArg)
		is(t, a.Control(9, 0), api.ErrArg)
		is(t, a.Control(1, 0), api.ErrState)
		is(t, a.Change(entry.Change{}), api.ErrArg)
		is(t, a.SetFilter(filter.Filter{All: true, Tags: []string{"a"}}), api.ErrArg)
		is(t, a.Take(l[0]), api.ErrOld)
		is(t, a.Take(index.Piece{}), api.ErrArg)
		if state(a) != before {
			t.Error("changed")
		}
	}
}

// What is refused for want of room has changed nothing.
func TestFull(t *testing.T) {
	x := box.New(true, api.Hash{5})
	for sectors := 60; ; sectors++ {
		d := disk.New(sectors)
		a := open(t, x, 1, d)
		if a.Control(1, 0) != api.OK {
			continue
		}
		n := 0
		for ; ; n++ {
			before := state(a)
			e := a.Change(put("n", strings.Repeat("v", n%200), "x"))
			if e == api.OK {
				continue
			}
			is(t, e, api.ErrFull)
			if state(a) != before || a.Over() {
				t.Error("changed")
			}
			for a.Control(4, 0) == api.OK {
			}
			before = state(a)
			is(t, a.Control(4, 0), api.ErrFull)
			is(t, a.Control(2, 2), api.ErrFull)
			if state(a) != before || state(open(t, x, 1, d)) != before {
				t.Error("changed")
			}
			break
		}
		if n > 4 {
			break
		}
	}
}

func TestAllRoomIsUsed(t *testing.T) {
	x := box.New(false, api.Hash{})
	d := disk.New(100)
	a := open(t, x, 1, d)
	for e := api.OK; e == api.OK; {
		_, e = a.Begin()
	}
	before := state(a)
	is(t, a.SetFilter(filter.Filter{All: true}), api.ErrFull)
	_, e := a.Begin()
	is(t, e, api.ErrFull)
	is(t, a.Lift(0, vector.Vector{1}), api.ErrFull)
	is(t, a.Control(1, 0), api.ErrFull)
	is(t, a.Raise(proof.Proof{Kind: 3, Writer: 1, Floor: 2}), api.ErrFull)
	if state(a) != before {
		t.Error("changed")
	}
	must(t, a.Compact())
	must(t, a.SetFilter(filter.Filter{All: true}))
	must(t, a.Control(1, 0))
	if state(open(t, x, 1, d)) != state(a) {
		t.Error("kept")
	}
}
