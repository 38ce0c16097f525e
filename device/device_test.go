package device_test

import (
	"bytes"
	"fmt"
	"slices"
	"strings"
	"testing"

	"jalousie/api"
	"jalousie/box"
	"jalousie/control"
	. "jalousie/device"
	"jalousie/disk"
	"jalousie/entry"
	"jalousie/filter"
	"jalousie/group"
	"jalousie/hash"
	"jalousie/index"
	"jalousie/item"
	"jalousie/keys"
	"jalousie/proof"
	"jalousie/store"
	"jalousie/vector"
)

var secret = api.Hash{1, 2, 3}

var own = hash.Derive(secret, "jalousie group")

func config(me int) Config {
	return Config{Me: me, Secret: secret, Seed: api.Hash{100, byte(me)}}
}

func open(t *testing.T, x *box.Box, me int, d *disk.Disk) *Device {
	t.Helper()
	v, e := Open(x, config(me), d)
	if e != api.OK {
		t.Fatal(e)
	}
	return v
}

func fresh(t *testing.T, x *box.Box, me int) *Device {
	t.Helper()
	return open(t, x, me, disk.New(2000))
}

func must(t *testing.T, e api.Errno) {
	t.Helper()
	if e != api.OK {
		t.Fatal(e)
	}
}

func is(t *testing.T, got, want api.Errno) {
	t.Helper()
	if got != want {
		t.Errorf("%d, want %d", got, want)
	}
}

func put(name, value string, tags ...string) entry.Change {
	return entry.Change{Op: 1, Name: name, Tags: tags, Value: value}
}

// state tells all that a device holds.
func state(d *Device) string {
	var b strings.Builder
	fmt.Fprintln(&b, d.Me(), d.Heads(), d.Group(), d.Ring(), d.Filter(), d.Wish())
	alarm, raised := d.Alarm()
	fmt.Fprintln(&b, raised, alarm)
	for i := range 4 {
		fmt.Fprintln(&b, d.Floor(i))
	}
	for w := 1; w <= 6; w++ {
		for s := uint64(1); s <= d.Heads()[w-1]; s++ {
			p, e := d.Piece(w, s)
			fmt.Fprintln(&b, e, p)
		}
	}
	fmt.Fprintln(&b, d.Rows(), d.Items(), d.Pending())
	return b.String()
}

// pass lets b take all that a holds, with the bodies that a wish asks for.
func pass(a, b *Device, w filter.Wish) {
	for again := true; again; {
		again = false
		for writer := 1; writer <= 6; writer++ {
			for {
				p, e := a.Piece(writer, b.Heads()[writer-1]+1)
				if !filter.Meets(w, p.Header) {
					p.Body = nil
				}
				if e != api.OK || b.Take(p) != api.OK {
					break
				}
				again = true
			}
		}
	}
}

var all = filter.Wish{All: true}

// two are an owner 1 and a member 2 that has taken all so far.
func two(t *testing.T, x *box.Box) (*Device, *Device) {
	t.Helper()
	a, b := fresh(t, x, 1), fresh(t, x, 2)
	must(t, a.Control(1, 0))
	must(t, a.Control(2, 2))
	pass(a, b, all)
	if b.Heads() != (vector.Vector{2}) || b.Group() != a.Group() {
		t.Fatal(b.Heads())
	}
	must(t, a.SetFilter(filter.Filter{All: true}))
	must(t, b.SetFilter(filter.Filter{All: true}))
	return a, b
}

func boxes() []*box.Box {
	return []*box.Box{box.New(false, api.Hash{}), box.New(true, api.Hash{5})}
}

func TestOpensErrors(t *testing.T) {
	x := box.New(false, api.Hash{})
	refused := func(me int, d *disk.Disk, want api.Errno) {
		t.Helper()
		if v, e := Open(x, config(me), d); e != want || v != nil {
			t.Error(e, v)
		}
	}
	for _, me := range []int{0, 7, -1} {
		refused(me, disk.New(3), api.ErrArg)
		refused(me, disk.New(100), api.ErrArg)
	}
	refused(1, disk.New(5), api.ErrArg)
	gone := disk.New(10)
	gone.Fuse(0)
	gone.Sync()
	refused(1, gone, api.ErrLost)
	for _, b := range [][]byte{nil, {0}, {1}, {255}, []byte("abc"), []byte("not a record"), bytes.Repeat([]byte{255}, 100)} {
		d := disk.New(10)
		s, _ := store.Open(d)
		must(t, s.Add(b))
		refused(1, d, api.ErrForm)
	}
	v := open(t, x, 6, disk.New(6))
	if v.Me() != 6 || v.Heads() != (vector.Vector{}) || v.Group() != (group.Group{}) || v.Over() || len(v.Rows()) != 0 || len(v.Items()) != 0 || len(v.Pending()) != 0 {
		t.Error("new")
	}
	if r := v.Ring(); r.Group != own || len(r.Epochs) != 0 || v.Filter().All || v.Wish().All {
		t.Error("new")
	}
}

func TestAnItem(t *testing.T) {
	for _, x := range boxes() {
		d := fresh(t, x, 1)
		is(t, d.Change(put("n", "v")), api.ErrState)
		must(t, d.Control(1, 0))
		must(t, d.Change(put("n", "v", "a", "b")))
		if len(d.Items()) != 0 || len(d.Rows()) != 1 || len(d.Pending()) != 0 {
			t.Error("the filter wants none")
		}
		must(t, d.SetFilter(filter.Filter{All: true}))
		l := d.Items()
		if len(l) != 1 || l[0].Name != "n" || l[0].Value != "v" || !slices.Equal(l[0].Tags, []string{"a", "b"}) || l[0].Token != x.Blind(keys.Of(own).Item, []byte("n")) {
			t.Fatal(l)
		}
		must(t, d.Change(entry.Change{Op: 3, Name: "n", Tags: []string{"c"}}))
		must(t, d.Change(put("m", "w", "c")))
		must(t, d.SetFilter(filter.Filter{Tags: []string{"c"}}))
		if len(d.Items()) != 2 {
			t.Error(d.Items())
		}
		must(t, d.Change(entry.Change{Op: 2, Name: "n"}))
		if l := d.Items(); len(l) != 1 || l[0].Name != "m" || len(d.Rows()) != 4 {
			t.Error(l)
		}
	}
}

func TestWhatIsMade(t *testing.T) {
	for _, x := range boxes() {
		a, b := two(t, x)
		must(t, b.Change(put("n", "v", "x", "y")))
		p, e := b.Piece(2, 1)
		must(t, e)
		set := keys.Of(own)
		key, _ := control.Key(config(1).Seed, 2)
		want := entry.Header{
			Writer: 2, Seq: 1, Epoch: 2, Time: 3, Item: keys.Item(x, set, "n"), Tokens: keys.Tokens(x, set, []string{"x", "y"}), Knows: [6]uint64{2},
			Sum: hash.Sum(p.Body), Size: 80, Code: p.Header.Code,
		}
		if !entry.Same(p.Header, want) || !entry.Right(x, keys.Of(key), p.Header) {
			t.Errorf("%+v, want %+v", p.Header, want)
		}
		text, e := entry.Open(x, keys.Of(key), p.Header, p.Body)
		c, _ := entry.ParseChange(text)
		if e != api.OK || c.Name != "n" || c.Value != "v" || len(c.Tags) != 2 {
			t.Error(e, c)
		}
		pass(b, a, all)
		must(t, a.Control(3, 2))
		p, _ = a.Piece(1, 3)
		tip, _ := a.Piece(1, 2)
		want = entry.Header{
			Writer: 1, Seq: 3, Prev: entry.Hash(tip.Header), Control: true, Time: 4, Knows: [6]uint64{2, 1},
			Sum: hash.Sum(p.Body), Size: p.Header.Size, Code: p.Header.Code,
		}
		if !entry.Same(p.Header, want) || !entry.Right(x, set, p.Header) {
			t.Errorf("%+v, want %+v", p.Header, want)
		}
		text, _ = entry.Open(x, set, p.Header, p.Body)
		said, e := control.Parse(text)
		if e != api.OK || said.Op != 3 || said.Member != 2 || said.Cut != 1 {
			t.Error(e, said)
		}
		key, _ = control.Key(config(1).Seed, 3)
		if k, e := control.Mine(x, secret, 1, 1, 3, said); e != api.OK || k != key {
			t.Error("a slot of the new epoch's key", e)
		}
	}
}

func TestControlsErrors(t *testing.T) {
	x := box.New(true, api.Hash{5})
	a, b := two(t, x)
	before, draws := state(a), x.Draws()
	is(t, a.Control(0, 0), api.ErrArg)
	is(t, a.Control(6, 1), api.ErrArg)
	is(t, a.Control(2, 0), api.ErrArg)
	is(t, a.Control(4, 1), api.ErrArg)
	is(t, a.Control(1, 0), api.ErrState)
	is(t, a.Control(2, 2), api.ErrState)
	is(t, a.Control(3, 1), api.ErrState)
	is(t, a.Control(3, 3), api.ErrState)
	is(t, a.Control(5, 1), api.ErrState)
	is(t, b.Control(4, 0), api.ErrState)
	for _, c := range []entry.Change{{}, {Op: 1}, {Op: 9, Name: "n"}, {Op: 2, Name: "n", Value: "v"}} {
		is(t, a.Change(c), api.ErrArg)
		is(t, fresh(t, x, 3).Change(c), api.ErrArg)
	}
	if state(a) != before || x.Draws() != draws {
		t.Error("an error changes nothing")
	}
}

func TestAllEpochs(t *testing.T) {
	x := box.New(false, api.Hash{})
	d := fresh(t, x, 1)
	must(t, d.Control(1, 0))
	for range 254 {
		must(t, d.Control(4, 0))
	}
	r := d.Ring()
	if d.Group().Epoch != 255 || len(r.Epochs) != 256 || r.Epochs[255] != config(1).Seed {
		t.Error(d.Group().Epoch, len(r.Epochs))
	}
	for epoch, key := range r.Epochs {
		if want, _ := control.Key(config(1).Seed, epoch); key != want {
			t.Fatal(epoch)
		}
	}
	is(t, d.Control(4, 0), api.ErrSpent)
	is(t, d.Control(2, 2), api.ErrSpent)
	must(t, d.Change(put("n", "v")))
	if p, _ := d.Piece(1, 256); p.Header.Epoch != 255 {
		t.Error(p.Header.Epoch)
	}
}

// A member that is added later has the keys of all epochs ahead; one that is removed gets no later one.
func TestKeysOfMembers(t *testing.T) {
	for _, x := range boxes() {
		a, b := two(t, x)
		must(t, a.Control(4, 0))
		must(t, a.Change(put("n", "v")))
		c := fresh(t, x, 3)
		pass(a, c, all)
		if c.Heads() != (vector.Vector{3}) || len(c.Ring().Epochs) != 0 {
			t.Error("no keys for the entry ahead of its ADD", c.Heads())
		}
		p, _ := a.Piece(1, 4)
		is(t, c.Take(p), api.ErrSeal)
		if c.Knows(p.Header) || !a.Knows(p.Header) {
			t.Error("knows")
		}
		must(t, a.Control(2, 4))
		d := fresh(t, x, 4)
		must(t, d.SetFilter(filter.Filter{All: true}))
		for s := uint64(1); s <= 5; s++ {
			p, _ := a.Piece(1, s)
			if s == 4 {
				is(t, d.Take(p), api.ErrSeal)
				break
			}
			must(t, d.Take(p))
		}
		pass(a, b, all)
		must(t, b.Change(put("m", "w")))
		pass(b, a, all)
		must(t, a.Control(3, 2))
		must(t, a.Change(put("late", "v")))
		pass(a, b, all)
		if g := b.Group(); g.Members[1] || len(b.Ring().Epochs) != 5 || g.Epoch != 5 || b.Heads() != (vector.Vector{6, 1}) {
			t.Error(g, len(b.Ring().Epochs), b.Heads())
		}
		is(t, b.Change(put("m", "w")), api.ErrState)
		late, _ := a.Piece(1, 7)
		is(t, b.Take(late), api.ErrSeal)
		if len(a.Ring().Epochs) != 6 {
			t.Error(len(a.Ring().Epochs))
		}
	}
}

func TestTheLateMembersKeys(t *testing.T) {
	x := box.New(false, api.Hash{})
	a := fresh(t, x, 1)
	must(t, a.Control(1, 0))
	must(t, a.Control(4, 0))
	must(t, a.Control(4, 0))
	must(t, a.Control(2, 3))
	c := fresh(t, x, 3)
	pass(a, c, all)
	if !slices.Equal(c.Ring().Epochs, a.Ring().Epochs) || len(c.Ring().Epochs) != 5 {
		t.Error(len(c.Ring().Epochs))
	}
	must(t, c.Change(put("n", "v")))
}

func TestHandOver(t *testing.T) {
	for _, x := range boxes() {
		a, b := two(t, x)
		must(t, a.Control(5, 2))
		is(t, a.Control(4, 0), api.ErrState)
		pass(a, b, all)
		if b.Group().Owner != 2 || a.Group().Owner != 2 {
			t.Error(b.Group())
		}
		must(t, b.Control(4, 0))
		must(t, b.Control(2, 3))
		pass(b, a, all)
		if !slices.Equal(a.Ring().Epochs, b.Ring().Epochs) || len(a.Ring().Epochs) != 5 || a.Group() != b.Group() {
			t.Error(len(a.Ring().Epochs))
		}
		c := fresh(t, x, 3)
		pass(b, c, all)
		if c.Group() != a.Group() || !slices.Equal(c.Ring().Epochs, a.Ring().Epochs) {
			t.Error(c.Group())
		}
		must(t, b.Control(3, 1))
		if g := b.Group(); g.Cut[0] != 3 || !g.Gone[0] {
			t.Error(g)
		}
	}
}

func TestTheHandedSeedIsKept(t *testing.T) {
	for _, x := range boxes() {
		a, k := fresh(t, x, 1), disk.New(200)
		b := open(t, x, 2, k)
		must(t, a.Control(1, 0))
		must(t, a.Control(2, 2))
		must(t, a.Control(5, 2))
		pass(a, b, all)
		must(t, b.Compact())
		b = open(t, x, 2, k)
		must(t, b.Control(4, 0))
		if want, _ := control.Key(config(1).Seed, 3); b.Ring().Epochs[3] != want {
			t.Error("the first owner's seed")
		}
	}
}

// What a member that is removed writes behind its cut counts nowhere.
func TestBehindTheCut(t *testing.T) {
	x := box.New(false, api.Hash{})
	a, b := two(t, x)
	must(t, b.Change(put("n", "v")))
	pass(b, a, all)
	must(t, b.Change(put("n", "late")))
	must(t, a.Control(3, 2))
	late, _ := b.Piece(2, 2)
	must(t, a.Take(late))
	if l := a.Items(); len(l) != 1 || l[0].Value != "v" || len(a.Rows()) != 1 || a.Heads() != (vector.Vector{3, 2}) {
		t.Error(l)
	}
	pass(a, b, all)
	if l := b.Items(); len(l) != 1 || l[0].Value != "v" || len(b.Rows()) != 1 {
		t.Error(l)
	}
}

func TestControlsThatAreNotApplied(t *testing.T) {
	x := box.New(false, api.Hash{})
	a, b := two(t, x)
	c := fresh(t, x, 3)
	// A second CREATE, by one that doesn't know of the first, stays in its chain.
	must(t, c.Control(1, 0))
	before := a.Group()
	p, _ := c.Piece(3, 1)
	must(t, a.Take(p))
	if a.Group() != before || a.Heads() != (vector.Vector{2, 0, 1}) {
		t.Error(a.Group())
	}
	// So does what isn't a control, and one whose slots are other ones.
	set := keys.Of(own)
	for i, text := range [][]byte{[]byte("none"), nil} {
		if i == 1 {
			text, _ = control.Bytes(control.Control{Op: 4, Slots: control.Slots(x, secret, 1, [6]bool{true}, 3, api.Hash{9})})
		}
		h, body, e := entry.Make(x, set, entry.Header{Writer: 1, Seq: uint64(3 + i), Prev: tip(b, 1), Control: true, Time: 9, Knows: [6]uint64{uint64(2 + i)}}, text)
		must(t, e)
		must(t, b.Take(index.Piece{Header: h, Body: body}))
		if b.Group() != before || len(b.Ring().Epochs) != 3 {
			t.Error(b.Group())
		}
	}
	// One whose slot for ME doesn't open changes the group alone, till a later one tells all keys.
	key, _ := control.Key(config(1).Seed, 3)
	slots := control.Slots(x, secret, 1, [6]bool{true, true}, 3, key)
	slots[1] = bytes.Repeat([]byte{1}, 48)
	text, _ := control.Bytes(control.Control{Op: 4, Slots: slots})
	h, body, e := entry.Make(x, set, entry.Header{Writer: 1, Seq: 5, Prev: tip(b, 1), Control: true, Time: 9, Knows: [6]uint64{4}}, text)
	must(t, e)
	must(t, b.Take(index.Piece{Header: h, Body: body}))
	if b.Group().Epoch != 3 || len(b.Ring().Epochs) != 3 {
		t.Error(b.Group())
	}
	must(t, b.Change(put("n", "v")))
	if p, _ := b.Piece(2, 1); p.Header.Epoch != 2 {
		t.Error("the last epoch that there is a key of", p.Header.Epoch)
	}
	key, _ = control.Key(config(1).Seed, 4)
	text, _ = control.Bytes(control.Control{Op: 4, Slots: control.Slots(x, secret, 1, [6]bool{true, true}, 4, key)})
	h, body, e = entry.Make(x, set, entry.Header{Writer: 1, Seq: 6, Prev: tip(b, 1), Control: true, Time: 9, Knows: [6]uint64{5}}, text)
	must(t, e)
	must(t, b.Take(index.Piece{Header: h, Body: body}))
	for epoch, key := range b.Ring().Epochs {
		if want, _ := control.Key(config(1).Seed, epoch); key != want {
			t.Error(epoch)
		}
	}
	if len(b.Ring().Epochs) != 5 {
		t.Error(len(b.Ring().Epochs))
	}
}

// A member that has no key at all can't write.
func TestAMemberWithoutKeys(t *testing.T) {
	x := box.New(false, api.Hash{})
	set := keys.Of(own)
	key, _ := control.Key(api.Hash{1}, 1)
	create, _ := control.Bytes(control.Control{Op: 1, Slots: control.Slots(x, secret, 1, [6]bool{true}, 1, key)})
	slots := control.Slots(x, secret, 1, [6]bool{true, true}, 2, key)
	slots[1] = slots[0]
	add, _ := control.Bytes(control.Control{Op: 2, Member: 2, Slots: slots})
	d := fresh(t, x, 2)
	var prev api.Hash
	for i, text := range [][]byte{create, add} {
		h, body, e := entry.Make(x, set, entry.Header{Writer: 1, Seq: uint64(i + 1), Prev: prev, Control: true, Time: 1, Knows: [6]uint64{uint64(i)}}, text)
		must(t, e)
		must(t, d.Take(index.Piece{Header: h, Body: body}))
		prev = entry.Hash(h)
	}
	if !group.Is(d.Group(), 2) || len(d.Ring().Epochs) != 0 {
		t.Error(d.Group())
	}
	before := state(d)
	if e := d.Change(put("n", "v")); e == api.OK || state(d) != before {
		t.Error(e)
	}
}

func TestStubsAndBodies(t *testing.T) {
	for _, x := range boxes() {
		a, b := two(t, x)
		must(t, b.SetFilter(filter.Filter{Tags: []string{"x"}}))
		must(t, a.Change(put("n", "v", "x")))
		must(t, a.Change(put("m", "w", "y")))
		must(t, a.Change(put("o", "u", "x", "y")))
		pass(a, b, filter.Wish{})
		if b.Heads() != a.Heads() || len(b.Items()) != 0 || len(b.Pending()) != 2 || len(b.Rows()) != 3 {
			t.Error(b.Heads(), b.Pending())
		}
		if p, e := b.Piece(1, 3); e != api.OK || len(p.Body) != 0 {
			t.Error("a stub", e)
		}
		first, _ := a.Piece(1, 3)
		stub := index.Piece{Header: first.Header}
		is(t, b.Take(stub), api.ErrOld)
		bad := first
		bad.Body = bytes.Clone(first.Body)
		bad.Body[0]++
		is(t, b.Take(bad), api.ErrOld)
		must(t, b.Take(first))
		is(t, b.Take(first), api.ErrOld)
		if l := b.Items(); len(l) != 1 || l[0].Name != "n" || len(b.Pending()) != 1 || b.Pending()[0].Seq != 5 {
			t.Error(l)
		}
		must(t, b.SetFilter(filter.Filter{All: true}))
		if len(b.Pending()) != 2 || len(b.Items()) != 1 {
			t.Error(b.Pending())
		}
		for s := uint64(4); s <= 5; s++ {
			p, _ := a.Piece(1, s)
			must(t, b.Take(p))
		}
		if !slices.EqualFunc(b.Items(), a.Items(), item.Same) || len(b.Pending()) != 0 || !slices.EqualFunc(b.Rows(), a.Rows(), sameRow) {
			t.Error("all is there")
		}
		control, _ := a.Piece(1, 1)
		is(t, b.Take(control), api.ErrOld)
	}
}

func sameRow(a, b item.Row) bool {
	return entry.Same(a.Header, b.Header) && a.Known == b.Known && a.Change.Op == b.Change.Op && a.Change.Name == b.Change.Name &&
		slices.Equal(a.Change.Tags, b.Change.Tags) && a.Change.Value == b.Change.Value
}

// tip is the hash of a writer's last header that is held.
func tip(d *Device, writer int) api.Hash {
	p, _ := d.Piece(writer, d.Heads()[writer-1])
	return entry.Hash(p.Header)
}

// forged is an entry with the group's keys that no device made.
func forged(t *testing.T, x *box.Box, d *Device, text []byte, change func(h *entry.Header)) index.Piece {
	t.Helper()
	set := keys.Of(own)
	h := entry.Header{Writer: 2, Seq: 1, Epoch: 2, Time: 5, Item: keys.Item(x, set, "n"), Tokens: keys.Tokens(x, set, []string{"x"}), Knows: [6]uint64{2}}
	change(&h)
	s, are := proof.Keys(d.Ring(), h)
	if !are {
		t.Fatal("no keys")
	}
	h, body, e := entry.Make(x, s, h, text)
	must(t, e)
	return index.Piece{Header: h, Body: body}
}

func TestRowsThatAreNotKnown(t *testing.T) {
	good, _ := entry.PackChange(put("n", "v", "x"))
	for name, c := range map[string]struct {
		text   []byte
		change func(h *entry.Header)
		known  bool
	}{
		"good": {good, func(h *entry.Header) {}, true}, "no change": {[]byte("none"), func(h *entry.Header) {}, false},
		"another item": {good, func(h *entry.Header) { h.Item[0]++ }, false}, "other tokens": {good, func(h *entry.Header) { h.Tokens = nil }, false},
		"another tag": {good, func(h *entry.Header) { h.Tokens = []api.Token{{1}} }, false}, "epoch": {good, func(h *entry.Header) { h.Epoch = 0 }, true},
	} {
		for _, x := range boxes() {
			a, _ := two(t, x)
			p := forged(t, x, a, c.text, c.change)
			must(t, a.Take(p))
			if r := a.Rows(); len(r) != 1 || r[0].Known != c.known || len(a.Pending()) == 1 == c.known {
				t.Error(name, r)
			}
			again := fresh(t, x, 2)
			pass(a, again, filter.Wish{})
			must(t, again.Take(p))
			if r := again.Rows(); len(r) != 1 || r[0].Known != c.known {
				t.Error(name, "a body that comes later", r)
			}
			is(t, again.Take(p), api.ErrOld)
		}
	}
}

func TestTakesErrors(t *testing.T) {
	for _, x := range boxes() {
		a, b := two(t, x)
		text, _ := entry.PackChange(put("n", "v", "x"))
		must(t, b.Change(put("n", "v", "x")))
		must(t, b.Change(put("n", "w", "x")))
		first, _ := b.Piece(2, 1)
		second, _ := b.Piece(2, 2)
		before := state(a)
		refused := func(want api.Errno, p index.Piece, change func(p *index.Piece)) {
			t.Helper()
			change(&p)
			is(t, a.Take(p), want)
			if state(a) != before {
				t.Error("changed", want)
			}
		}
		none := func(p *index.Piece) {}
		refused(api.ErrArg, index.Piece{}, none)
		refused(api.ErrArg, first, func(p *index.Piece) { p.Header.Size = 0 })
		refused(api.ErrState, second, none)
		refused(api.ErrSeal, second, func(p *index.Piece) { p.Header.Time++ })
		refused(api.ErrSeal, first, func(p *index.Piece) { p.Header.Epoch = 9 })
		refused(api.ErrSeal, first, func(p *index.Piece) { p.Header.Code[0]++ })
		refused(api.ErrForm, first, func(p *index.Piece) { p.Body = p.Body[:79] })
		refused(api.ErrForm, first, func(p *index.Piece) { p.Body = second.Body })
		refused(api.ErrState, forged(t, x, a, text, func(h *entry.Header) { h.Knows[0] = 3 }), none)
		refused(api.ErrState, forged(t, x, a, text, func(h *entry.Header) { h.Knows[4] = 1 }), func(p *index.Piece) { p.Body = p.Body[1:] })
		own := forged(t, x, a, []byte("c"), func(h *entry.Header) {
			*h = entry.Header{Writer: 1, Seq: 3, Prev: tip(a, 1), Control: true, Knows: [6]uint64{2}}
		})
		refused(api.ErrForm, own, func(p *index.Piece) { p.Body = nil })
		must(t, a.Take(index.Piece{Header: first.Header}))
		must(t, a.Take(second))
		if a.Heads() != (vector.Vector{2, 2}) {
			t.Error(a.Heads())
		}
	}
}

func TestForkAndChain(t *testing.T) {
	for _, x := range boxes() {
		text, _ := entry.PackChange(put("n", "v", "x"))
		a, b := two(t, x)
		must(t, b.Change(put("n", "v", "x")))
		pass(b, a, all)
		held, _ := a.Piece(2, 1)
		fork := forged(t, x, a, text, func(h *entry.Header) { h.Time = 99 })
		before := state(a)
		turned := fork
		turned.Header.Time++
		is(t, a.Take(turned), api.ErrSeal)
		if state(a) != before {
			t.Error("a header that isn't right shows nothing")
		}
		is(t, a.Take(fork), api.ErrFork)
		p, raised := a.Alarm()
		if !raised || p.Kind != 1 || !entry.Same(p.A, held.Header) || !entry.Same(p.B, fork.Header) || !proof.Check(x, a.Ring(), p) || a.Heads() != (vector.Vector{2, 1}) {
			t.Error(p)
		}
		chain := forged(t, x, a, text, func(h *entry.Header) { h.Seq, h.Knows[1], h.Prev = 2, 1, api.Hash{7} })
		is(t, a.Take(chain), api.ErrChain)
		if q, _ := a.Alarm(); q.Kind != 1 {
			t.Error("the first alarm stays", q)
		}
		is(t, b.Take(chain), api.ErrChain)
		p, raised = b.Alarm()
		if !raised || p.Kind != 2 || !entry.Same(p.A, held.Header) || !entry.Same(p.B, chain.Header) || !proof.Check(x, b.Ring(), p) {
			t.Error(p)
		}
		is(t, b.Raise(proof.Proof{Kind: 3, Writer: 1, Floor: 2}), api.ErrOld)
		is(t, b.Raise(proof.Proof{Kind: 3, Writer: 9, Floor: 2}), api.ErrArg)
	}
}

func TestRaise(t *testing.T) {
	x := box.New(false, api.Hash{})
	d := fresh(t, x, 1)
	if p, raised := d.Alarm(); raised || p.Kind != 0 {
		t.Error(p)
	}
	for _, p := range []proof.Proof{{}, {Kind: 3, Writer: 1, Floor: 3, Head: 3}, {Kind: 1}, {Kind: 4, A: entry.Header{Writer: 1, Seq: 1, Size: 80}}} {
		is(t, d.Raise(p), api.ErrArg)
	}
	must(t, d.Raise(proof.Proof{Kind: 3, Writer: 1, Floor: 3, Head: 2}))
	if p, raised := d.Alarm(); !raised || p.Floor != 3 {
		t.Error(p)
	}
}

func TestFloors(t *testing.T) {
	k := disk.New(100)
	d := open(t, box.New(false, api.Hash{}), 1, k)
	must(t, d.Lift(0, vector.Vector{1, 2}))
	must(t, d.Lift(0, vector.Vector{2, 1, 1 << 20}))
	must(t, d.Lift(3, vector.Vector{5: 4}))
	if d.Floor(0) != (vector.Vector{2, 2, 1 << 20}) || d.Floor(3) != (vector.Vector{5: 4}) || d.Floor(1) != (vector.Vector{}) || d.Floor(-1) != (vector.Vector{}) || d.Floor(4) != (vector.Vector{}) {
		t.Error(d.Floor(0), d.Floor(3))
	}
	is(t, d.Lift(-1, vector.Vector{}), api.ErrArg)
	is(t, d.Lift(4, vector.Vector{}), api.ErrArg)
	is(t, d.Lift(1, vector.Vector{5: 1<<20 + 1}), api.ErrArg)
	k.Fuse(0)
	must(t, d.Lift(0, vector.Vector{2, 2}))
	must(t, d.Lift(1, vector.Vector{}))
	if k.Gone() {
		t.Error("of the same nothing is kept")
	}
}

func TestLives(t *testing.T) {
	d := fresh(t, box.New(false, api.Hash{}), 1)
	for i := range uint64(3) {
		if n, e := d.Begin(); e != api.OK || n != i+1 {
			t.Error(n, e)
		}
	}
}

// Records as this device keeps them, where they can't come.
func TestRecordsThatDoNotFit(t *testing.T) {
	x, k := box.New(false, api.Hash{}), disk.New(400)
	a := open(t, x, 1, k)
	_, e := a.Begin()
	must(t, e)
	must(t, a.Control(1, 0))
	must(t, a.Change(put("n", "v")))
	must(t, a.Raise(proof.Proof{Kind: 3, Writer: 1, Floor: 3, Head: 2}))
	s, _ := store.Open(k)
	l := s.Records()
	if len(l) != 4 || !bytes.Equal(l[0], []byte{6, 1}) {
		t.Skip("records have another form")
	}
	life, first, second, alarm := l[0], l[1], l[2], l[3]
	p, _ := a.Piece(1, 2)
	other := slices.Concat([]byte{2, 1, 2, 80}, p.Body)
	for name, l := range map[string][][]byte{
		"a gap": {second}, "twice": {first, first}, "a life twice": {life, life}, "two alarms": {alarm, alarm}, "a body that is there": {first, second, other},
		"a body of none": {other}, "a control's body": {first, slices.Concat([]byte{2, 1, 1, 80}, p.Body)}, "a filter": {{3, 1, 1, 1, 'a'}}, "a relay": {{5, 4, 0, 0, 0, 0, 0, 0}},
		"more": {append(slices.Clone(life), 0)}, "cut": {first[:len(first)-1]}, "another body": {append(slices.Clone(first[:len(first)-1]), 1)}, "no life": {{6, 0}},
	} {
		k := disk.New(400)
		s, _ := store.Open(k)
		must(t, s.Add(l...))
		if d, e := Open(x, config(1), k); e != api.ErrForm || d != nil {
			t.Error(name, e)
		}
	}
}

// The last life, by a record as this device keeps it.
func TestTheLastLife(t *testing.T) {
	x, k := box.New(false, api.Hash{}), disk.New(10)
	_, e := open(t, x, 1, k).Begin()
	must(t, e)
	s, _ := store.Open(k)
	if l := s.Records(); len(l) != 1 || !bytes.Equal(l[0], []byte{6, 1}) {
		t.Skip("records have another form")
	}
	must(t, s.Add([]byte{6, 254, 255, 255, 255, 7}))
	d := open(t, x, 1, k)
	if n, e := d.Begin(); e != api.OK || n != 1<<31-1 {
		t.Error(n, e)
	}
	if n, e := d.Begin(); e != api.ErrSpent || n != 0 {
		t.Error(n, e)
	}
	d = open(t, x, 1, k)
	k.Fuse(0)
	is(t, d.SetFilter(filter.Filter{}), api.ErrLost)
	if _, e := d.Begin(); e != api.ErrSpent {
		t.Error("spent comes ahead of over", e)
	}
}

func TestSetFilter(t *testing.T) {
	x := box.New(false, api.Hash{})
	d := fresh(t, x, 1)
	is(t, d.SetFilter(filter.Filter{All: true, Tags: []string{"a"}}), api.ErrArg)
	is(t, d.SetFilter(filter.Filter{Tags: []string{"b", "a"}}), api.ErrArg)
	f := filter.Filter{Tags: []string{"a", "b"}}
	must(t, d.SetFilter(f))
	f.Tags[0] = "z"
	d.Filter().Tags[0] = "y"
	d.Wish().Tokens[0] = api.Token{}
	want := filter.Of(x, keys.Of(own), filter.Filter{Tags: []string{"a", "b"}})
	if !slices.Equal(d.Filter().Tags, []string{"a", "b"}) || !slices.Equal(d.Wish().Tokens, want.Tokens) || d.Wish().All {
		t.Error(d.Filter())
	}
	must(t, d.SetFilter(filter.Filter{}))
	if len(d.Filter().Tags) != 0 || len(d.Wish().Tokens) != 0 {
		t.Error(d.Filter())
	}
}

func TestTimesThatAreSpent(t *testing.T) {
	x := box.New(true, api.Hash{5})
	a, _ := two(t, x)
	text, _ := entry.PackChange(put("n", "v", "x"))
	must(t, a.Take(forged(t, x, a, text, func(h *entry.Header) { h.Time = 1<<40 - 1 })))
	must(t, a.Change(put("n", "v")))
	before, draws := state(a), x.Draws()
	is(t, a.Change(put("n", "v")), api.ErrSpent)
	is(t, a.Control(4, 0), api.ErrSpent)
	is(t, a.Control(1, 0), api.ErrState)
	if state(a) != before || x.Draws() != draws {
		t.Error("changed")
	}
}

func TestPieces(t *testing.T) {
	a, _ := two(t, box.New(false, api.Hash{}))
	for _, c := range []struct {
		writer int
		seq    uint64
	}{{0, 1}, {7, 1}, {-1, 1}, {1, 0}, {1, 3}, {2, 1}, {1, 1<<64 - 1}} {
		if p, e := a.Piece(c.writer, c.seq); e != api.ErrNone || len(p.Body) != 0 || p.Header.Writer != 0 {
			t.Error(c, e)
		}
	}
}

func TestMemoryIsNotShared(t *testing.T) {
	x := box.New(false, api.Hash{})
	a, b := two(t, x)
	tags := []string{"x", "y"}
	must(t, a.Change(put("n", "v", tags...)))
	tags[0] = "z"
	p, _ := a.Piece(1, 3)
	must(t, b.Take(p))
	want := state(b)
	p.Body[0]++
	p.Header.Tokens[0][0]++
	for _, d := range []*Device{a, b} {
		before := state(d)
		q, _ := d.Piece(1, 3)
		q.Body[0]++
		q.Header.Tokens[0][0]++
		r := d.Rows()
		r[0].Header.Tokens[0][0]++
		r[0].Change.Tags[0] = "q"
		d.Items()[0].Tags[0] = "q"
		d.Ring().Epochs[0][0]++
		if state(d) != before {
			t.Error("shared")
		}
	}
	if state(b) != want || a.Items()[0].Tags[0] != "x" {
		t.Error("shared")
	}
}

func TestTheAlarmsMemoryIsNotShared(t *testing.T) {
	x := box.New(false, api.Hash{})
	a, b := two(t, x)
	must(t, a.Change(put("n", "v", "x", "y")))
	made, _ := a.Piece(1, 3)
	p := proof.Proof{Kind: 4, A: made.Header, Wanted: slices.Clone(made.Header.Tokens)}
	must(t, b.Raise(p))
	before := state(b)
	p.A.Tokens[0][0]++
	p.Wanted[0][0]++
	q, _ := b.Alarm()
	q.A.Tokens[0][0]++
	q.Wanted[0][0]++
	if state(b) != before {
		t.Error("shared")
	}
	must(t, a.Change(put("m", "v", "x")))
	second, _ := a.Piece(1, 4)
	fork := forged(t, x, a, []byte("fork"), func(h *entry.Header) {
		*h = second.Header
		h.Time++
	})
	is(t, a.Take(fork), api.ErrFork)
	before = state(a)
	q, _ = a.Alarm()
	q.A.Tokens[0][0]++
	q.B.Tokens[0][0]++
	fork.Header.Tokens[0][0]++
	if state(a) != before {
		t.Error("shared")
	}
}
