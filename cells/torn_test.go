package cells_test

import (
	"bytes"
	"slices"
	"testing"

	"jalousie/api"
	. "jalousie/cells"
	"jalousie/disk"
)

// told is a log's state.
type told struct {
	serial uint64
	note   [16]byte
	bytes  string
}

func tells(l *Log) told {
	return told{l.Serial(), l.Note(), string(l.Bytes())}
}

// chance draws numbers, the same ones each time.
type chance uint64

func (c *chance) below(n int) int {
	*c = *c*6364136223846793005 + 1442695040888963407
	return int(uint64(*c)>>33) % n
}

// cut appends, with a fuse, and crashes: the log that is opened again has the state ahead of it, or the one behind it.
func cut(t *testing.T, d *disk.Disk, l *Log, sectors int, b []byte, note [16]byte, fuse int, fate []byte) *Log {
	t.Helper()
	was := tells(l)
	d.Fuse(fuse)
	e := l.Append(b, note)
	if e != api.OK && e != api.ErrLost || l.Over() != (e == api.ErrLost) {
		t.Fatal(e, l.Over())
	}
	if e != api.OK && tells(l) != was {
		t.Fatal("what is cut off changes nothing in memory")
	}
	d.Crash(fate)
	again := open(t, d, 0, sectors)
	next := told{was.serial + 1, note, was.bytes + string(b)}
	if is := tells(again); is != next && (e == api.OK || is != was) {
		t.Fatalf("fuse %d, fate %v: serial %d, %d bytes, note %v; ahead %d, %d, %v; behind %d, %d, %v", fuse, fate, is.serial, len(is.bytes), is.note, was.serial, len(was.bytes), was.note, next.serial, len(next.bytes), next.note)
	}
	return again
}

// Behind two cuts with unlike fates a head's sector could have two halves alike, of parts of three heads.
func TestTwoCuts(t *testing.T) {
	d := disk.New(16)
	l := open(t, d, 0, 16)
	must(t, l.Append(run(16, 1), [16]byte{7}))
	must(t, l.Append(run(4, 2), [16]byte{7}))
	l = cut(t, d, l, 16, run(252, 3), [16]byte{7}, 7, []byte{160})
	state(t, l, 2, append(run(16, 1), run(4, 2)...), 7)
	l = cut(t, d, l, 16, run(268, 4), [16]byte{7}, 7, []byte{15})
	state(t, l, 2, append(run(16, 1), run(4, 2)...), 7)
	must(t, l.Append(run(268, 5), [16]byte{7}))
	d.Crash([]byte{0})
	state(t, open(t, d, 0, 16), 3, append(append(run(16, 1), run(4, 2)...), run(268, 5)...), 7)
}

// Many cuts, one behind the other, with few lengths and notes, so that torn heads have much in common.
func TestManyCuts(t *testing.T) {
	c := chance(1)
	notes := [][16]byte{{}, {7}, {15: 255}, [16]byte(bytes.Repeat([]byte{255}, 16))}
	sizes := []int{0, 1, 4, 16, 252, 268}
	for range 3000 {
		d := disk.New(20)
		l := open(t, d, 0, 20)
		for i := range 16 {
			if c.below(3) == 0 {
				l = cutClear(t, d, l, c.below(4), []byte{byte(c.below(256))})
			}
			b, note := run(sizes[c.below(len(sizes))], i), notes[c.below(len(notes))]
			if len(b) > l.Room() {
				continue
			}
			steps := (len(b)+126)/64 + 4
			l = cut(t, d, l, 20, b, note, steps-c.below(6), []byte{byte(c.below(256)), byte(c.below(256))})
		}
	}
}

func cutClear(t *testing.T, d *disk.Disk, l *Log, fuse int, fate []byte) *Log {
	t.Helper()
	was := tells(l)
	d.Fuse(fuse)
	e := l.Clear()
	d.Crash(fate)
	again := open(t, d, 0, 20)
	if is := tells(again); is != (told{was.serial + 1, was.note, ""}) && (e == api.OK || is != was) {
		t.Fatal("a Clear that is cut off", fuse, fate)
	}
	return again
}

// halfOf is a head's, as it stands in a sector.
func halfOf(serial, count uint64, note [16]byte) []byte {
	var b []byte
	for _, x := range []uint64{serial, count} {
		for i := range 8 {
			b = append(b, byte(x>>(56-8*i)))
		}
	}
	return append(b, note[:]...)
}

// slippery are sectors of two halves that differ, over which next, torn behind so many first or last bytes, leaves wrong twice.
func slippery(next, wrong []byte) [][]byte {
	var l [][]byte
	for _, k := range []int{1, 7, 8, 9, 15, 16, 17, 30, 31} {
		if bytes.Equal(next[:k], wrong[:k]) {
			l = append(l, slices.Concat(bytes.Repeat([]byte{170}, k), wrong[k:], wrong))
		}
		if bytes.Equal(next[k:], wrong[k:]) {
			l = append(l, slices.Concat(wrong, wrong[:k], bytes.Repeat([]byte{170}, 32-k)))
		}
	}
	return l
}

// Whatever stands, torn, where the next head goes: no tear makes a state of it that never was.
func TestHeadsThatSlip(t *testing.T) {
	all := [16]byte(bytes.Repeat([]byte{255}, 16))
	for _, note := range [][16]byte{{}, {7}, all} {
		for _, c := range [][2]uint64{{3, 0}, {256, 3}, {1<<62 - 1, 3}} {
			serial, count := c[0], c[1]
			next := halfOf(serial, count, note)
			var sectors [][]byte
			for _, w := range []struct {
				serial, count uint64
				note          [16]byte
			}{{serial, count + 1, note}, {serial, 128, note}, {serial, count, [16]byte{9}}, {serial, count, [16]byte{7, 15: 1}}, {serial, count, all}, {serial + 2, count, note}, {serial + 256, count, note}, {serial | 1<<62, count, note}} {
				if wrong := halfOf(w.serial, w.count, w.note); !bytes.Equal(wrong, next) {
					sectors = append(sectors, slippery(next, wrong)...)
				}
			}
			if serial == 3 {
				ones := bytes.Repeat([]byte{255}, 8)
				sectors = append(sectors, slices.Concat(ones[:1], next[1:], ones, next[8:]))
			}
			for _, s := range sectors {
				for fuse := 1; fuse <= 5; fuse += 2 {
					tearAll(t, s, serial, count, note, fuse)
				}
			}
		}
	}
}

// tearAll cuts one Append off, by all fates, where a sector stands in its head's place.
func tearAll(t *testing.T, sector []byte, serial, count uint64, note [16]byte, fuse int) {
	t.Helper()
	for fate := range 256 {
		if fate%128 > 33 && fate%128 != 64 {
			continue
		}
		d := disk.New(4)
		lay(t, d, int((serial-1)%2), serial-1, 0, 7)
		must(t, d.Write(int(serial%2), sector))
		must(t, d.Sync())
		l := open(t, d, 0, 4)
		state(t, l, serial-1, nil, 7)
		l = cut(t, d, l, 4, run(int(count), 1), note, fuse, []byte{byte(fate)})
		if l.Serial() < serial {
			l = cut(t, d, l, 4, run(int(count), 2), note, fuse, []byte{byte(fate * 3)})
		}
		if l.Serial() < serial {
			must(t, l.Append([]byte{1}, note))
			d.Crash(nil)
			if is := tells(open(t, d, 0, 4)); is != (told{serial, note, "\x01"}) {
				t.Fatal("what is answered isn't there", is)
			}
		}
	}
}

// An Append writes what changes of the room, syncs, writes the head, and syncs; so it does over a torn head by which no tear does harm.
func TestSteps(t *testing.T) {
	for _, torn := range []bool{false, true} {
		for _, c := range [][2]int{{0, 0}, {1, 1}, {44, 1}, {45, 2}, {172, 3}, {173, 4}} {
			steps := 2
			if c[1] > 0 {
				steps += c[1] + 1
			}
			for fuse := range steps + 2 {
				d := disk.New(8)
				l := open(t, d, 0, 8)
				must(t, l.Append(run(16, 1), [16]byte{7}))
				must(t, l.Append(run(4, 1), [16]byte{7}))
				if torn {
					l = cut(t, d, l, 8, run(3, 1), [16]byte{8}, 3, []byte{40})
					if b, _ := d.Read(1); bytes.Equal(b[:32], b[32:]) {
						t.Fatal("a head that isn't torn")
					}
				}
				was := tells(l)
				d.Fuse(fuse)
				e := l.Append(run(c[0], 5), [16]byte{9})
				if (e == api.OK) != (fuse >= steps) {
					t.Error(torn, c, fuse, e)
				}
				loose := 0
				switch {
				case fuse <= c[1]:
					loose = fuse
				case fuse == steps-1:
					loose = 1
				}
				if c[1] == 0 {
					loose = fuse % 2
				}
				if e != api.OK && d.Loose() != loose {
					t.Error(torn, c, fuse, d.Loose(), loose)
				}
				d.Crash(nil)
				if is := tells(open(t, d, 0, 8)); e != api.OK && is != was {
					t.Error(torn, c, fuse, is)
				}
			}
		}
	}
}

// What Open finds torn it leaves so: it changes nothing of a disk.
func TestOpenChangesNothing(t *testing.T) {
	d := disk.New(16)
	l := open(t, d, 0, 16)
	must(t, l.Append(run(16, 1), [16]byte{7}))
	must(t, l.Append(run(4, 2), [16]byte{7}))
	l = cut(t, d, l, 16, run(252, 3), [16]byte{7}, 7, []byte{160})
	was, _ := d.Read(1)
	d.Fuse(0)
	open(t, d, 0, 16)
	if is, e := d.Read(1); e != api.OK || d.Gone() || d.Loose() != 0 || !bytes.Equal(is, was) {
		t.Error(is, e)
	}
}
