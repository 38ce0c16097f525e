package world_test

import (
	"bytes"
	"slices"
	"testing"

	"jalousie/api"
	"jalousie/ask"
	"jalousie/control"
	"jalousie/entry"
	"jalousie/filter"
	"jalousie/group"
	"jalousie/hash"
	"jalousie/keys"
	"jalousie/vector"
	. "jalousie/world"
)

var secret = api.Hash{7, 7}

func plan() Plan {
	return Plan{Devices: 2, Relays: 2, Sectors: 2000, Honest: [2]bool{true, true}, Seed: api.Hash{1}, Secret: secret}
}

func begun(t *testing.T, p Plan) *World {
	t.Helper()
	w, e := New(p)
	if e != api.OK {
		t.Fatal(e)
	}
	return w
}

func put(name, value string, tags ...string) entry.Change {
	return entry.Change{Op: 1, Name: name, Tags: tags, Value: value}
}

func does(t *testing.T, w *World, want api.Errno, acts ...Act) {
	t.Helper()
	for i, a := range acts {
		if e := w.Do(a); e != want {
			t.Errorf("%d (%d): %d, want %d", i, a.Kind, e, want)
		}
	}
}

// round1 is one request of a device, served and taken.
func round1(t *testing.T, w *World, who, relay int) {
	t.Helper()
	does(t, w, api.OK, Act{Kind: 3, Who: who, Relay: relay}, Act{Kind: 4}, Act{Kind: 4})
}

func TestNew(t *testing.T) {
	for _, change := range []func(p *Plan){
		func(p *Plan) { p.Devices = 0 }, func(p *Plan) { p.Devices = 5 }, func(p *Plan) { p.Devices = -1 }, func(p *Plan) { p.Relays = 0 }, func(p *Plan) { p.Relays = 3 },
		func(p *Plan) { p.Sectors = 5 }, func(p *Plan) { p.Sectors = 16385 }, func(p *Plan) { p.Sectors = -1 },
	} {
		p := plan()
		change(&p)
		if w, e := New(p); e != api.ErrArg || w != nil {
			t.Error(p, e)
		}
	}
	for _, p := range []Plan{{Devices: 1, Relays: 1, Sectors: 6}, {Devices: 4, Relays: 2, Sectors: 16384, Ideal: true}} {
		w := begun(t, p)
		for i := -1; i < 6; i++ {
			d := w.Device(i)
			if up := i >= 0 && i < p.Devices; (d != nil) != up || up && d.Me() != i+1 || w.Leaked(i) {
				t.Error(i)
			}
			if up := i >= 0 && i < p.Relays; (w.Relay(i) != nil) != up {
				t.Error(i)
			}
		}
		if w.Box().Ideal() != p.Ideal || w.Box().Draws() != 0 || len(w.Way()) != 0 || len(w.Trace()) != 0 {
			t.Error("new")
		}
	}
}

// The devices' seeds and secret, and the box's seed, are the plan's.
func TestSeeds(t *testing.T) {
	p := plan()
	p.Ideal = true
	w := begun(t, p)
	does(t, w, api.OK, Act{Kind: 0, Who: 1, Op: 1}, Act{Kind: 12, Who: 1})
	key := hash.Derive(secret, "jalousie seed1")
	for range 255 - 1 {
		key = hash.Derive(key, "jalousie back")
	}
	group := hash.Derive(secret, "jalousie group")
	back := hash.Derive(key, "jalousie back")
	if l := w.Trace(); len(l) != 1 || !bytes.Equal(l[0], slices.Concat(group[:], back[:], key[:])) {
		t.Error(l)
	}
	if !w.Leaked(1) || w.Leaked(0) {
		t.Error("leaked")
	}
	handle, _ := hash.Expand(hash.Derive(api.Hash{1}, "jalousie draw"), make([]byte, 8), 48)
	made, _ := w.Device(1).Piece(2, 1)
	text, e := entry.Open(w.Box(), keys.Of(group), made.Header, made.Body)
	if c, _ := control.Parse(text); e != api.OK || !bytes.Equal(c.Slots[1], handle) || w.Box().Draws() != 3 {
		t.Error(w.Box().Draws(), e)
	}
	w.Trace()[0][0]++
	if w.Trace()[0][0] != group[0] {
		t.Error("shared")
	}
}

func TestTheExample(t *testing.T) {
	w := begun(t, Plan{Devices: 1, Relays: 1, Sectors: 100})
	does(t, w, api.OK, Act{Kind: 0, Op: 1}, Act{Kind: 3}, Act{Kind: 4}, Act{Kind: 4})
	if w.Relay(0).Count() != 1 || len(w.Way()) != 0 {
		t.Error(w.Relay(0).Count())
	}
}

func TestActsOfDevices(t *testing.T) {
	w := begun(t, plan())
	does(t, w, api.ErrArg, Act{Kind: 13}, Act{Kind: -1}, Act{Kind: 1 << 40}, Act{Kind: 0, Op: 9}, Act{Kind: 1}, Act{Kind: 2, Filter: filter.Filter{All: true, Tags: []string{"a"}}})
	does(t, w, api.ErrState, Act{Kind: 1, Change: put("n", "v")}, Act{Kind: 0, Op: 4})
	does(t, w, api.OK, Act{Kind: 0, Op: 1}, Act{Kind: 0, Op: 2, Member: 2}, Act{Kind: 1, Change: put("n", "v", "x")})
	does(t, w, api.OK, Act{Kind: 2, Who: 3, Filter: filter.Filter{All: true}}, Act{Kind: 2, Who: -5, Filter: filter.Filter{Tags: []string{"x"}}})
	if !w.Device(1).Filter().All || len(w.Device(0).Items()) != 1 || w.Device(0).Heads() != (vector.Vector{3}) {
		t.Error("who is counted modulo the devices, below 0 as 0")
	}
	for range 3 {
		round1(t, w, 0, 3)
	}
	if w.Relay(1).Count() != 3 || w.Relay(0).Count() != 0 {
		t.Error("relay is counted modulo the relays")
	}
	round1(t, w, 1, 1)
	if w.Device(1).Group() != w.Device(0).Group() || len(w.Device(1).Items()) != 1 {
		t.Error("pulled")
	}
	round1(t, w, 1, -7)
	if len(w.Trace()) != 5 {
		t.Error(len(w.Trace()))
	}
	q, e := ask.Parse(w.Trace()[0])
	if first, _ := w.Device(0).Piece(1, 1); e != api.OK || q.Kind != 1 || !entry.Same(q.Piece.Header, first.Header) {
		t.Error("what is asked is put to the trace", e)
	}
	room := func() api.Errno { return w.Do(Act{Kind: 11, Who: 0}) }
	if e := room(); e != api.OK || w.Device(0).Heads() != (vector.Vector{3}) {
		t.Error(e)
	}
}

func TestLetters(t *testing.T) {
	w := begun(t, plan())
	does(t, w, api.ErrNone, Act{Kind: 4}, Act{Kind: 5}, Act{Kind: 6}, Act{Kind: 10}, Act{Kind: 4, I: -1})
	does(t, w, api.OK, Act{Kind: 3}, Act{Kind: 3, Who: 1, Relay: 1})
	l := w.Way()
	if len(l) != 2 || l[0].From != 0 || l[0].To != 10 || l[1].From != 1 || l[1].To != 11 || !bytes.Equal(l[1].Bytes, w.Trace()[1]) {
		t.Error(l)
	}
	does(t, w, api.OK, Act{Kind: 6, I: 3}, Act{Kind: 5, I: 0})
	if l := w.Way(); len(l) != 2 || l[0].From != 1 || l[1].From != 1 || len(w.Trace()) != 2 {
		t.Error(l)
	}
	does(t, w, api.OK, Act{Kind: 4}, Act{Kind: 4})
	if l := w.Way(); len(l) != 2 || l[0].From != 11 || l[0].To != 1 {
		t.Error(l)
	}
	does(t, w, api.OK, Act{Kind: 4})
	does(t, w, api.ErrOld, Act{Kind: 4})
	for range 200 {
		does(t, w, api.OK, Act{Kind: 3})
	}
	traced := len(w.Trace())
	does(t, w, api.ErrFull, Act{Kind: 3}, Act{Kind: 3, Who: 1}, Act{Kind: 6})
	if len(w.Trace()) != traced || len(w.Way()) != 200 {
		t.Error("changed")
	}
	does(t, w, api.OK, Act{Kind: 5, I: 199}, Act{Kind: 3}, Act{Kind: 4, I: 100})
}

func TestTurns(t *testing.T) {
	p := plan()
	p.Honest = [2]bool{false, true}
	w := begun(t, p)
	for k := range 2 {
		does(t, w, api.OK, Act{Kind: 3, Relay: k})
		does(t, w, api.ErrNone, Act{Kind: 10, I: 0, Bytes: []byte("x")})
		does(t, w, api.OK, Act{Kind: 4})
		if k == 1 {
			does(t, w, api.ErrNone, Act{Kind: 10, I: 0, Bytes: []byte("x")})
			does(t, w, api.OK, Act{Kind: 4})
			break
		}
		does(t, w, api.ErrNone, Act{Kind: 10, I: 0, Bytes: make([]byte, 16385)})
		does(t, w, api.OK, Act{Kind: 10, I: 5, Bytes: []byte("x")})
		if string(w.Way()[0].Bytes) != "x" {
			t.Error(w.Way())
		}
		does(t, w, api.ErrForm, Act{Kind: 4})
	}
	does(t, w, api.OK, Act{Kind: 0, Op: 1}, Act{Kind: 3}, Act{Kind: 4})
	q, _ := ask.Parse(w.Trace()[len(w.Trace())-1])
	b, _ := ask.ReplyBytes(ask.Reply{ID: q.ID, Kind: 1})
	does(t, w, api.OK, Act{Kind: 10, Bytes: b})
	does(t, w, api.ErrFloor, Act{Kind: 4})
	does(t, w, api.ErrState, Act{Kind: 3})
	does(t, w, api.OK, Act{Kind: 3, Who: 1})
	for range 199 {
		does(t, w, api.OK, Act{Kind: 6})
	}
	does(t, w, api.ErrState, Act{Kind: 3})
}

func TestCrashesOfDisks(t *testing.T) {
	w := begun(t, plan())
	does(t, w, api.OK, Act{Kind: 0, Op: 1}, Act{Kind: 9, N: 0})
	does(t, w, api.ErrLost, Act{Kind: 1, Change: put("n", "v")}, Act{Kind: 1, Change: put("n", "v")}, Act{Kind: 3}, Act{Kind: 11})
	if !w.Device(0).Over() || w.Device(1).Over() {
		t.Error("over")
	}
	does(t, w, api.OK, Act{Kind: 7, Fate: []byte{64}})
	if w.Device(0).Over() || w.Device(0).Heads() != (vector.Vector{1}) {
		t.Error(w.Device(0).Heads())
	}
	does(t, w, api.OK, Act{Kind: 3})
	if q, _ := ask.Parse(w.Trace()[0]); q.ID != 2<<32+1 || q.Kind != 1 {
		t.Error("a new sync", q.ID)
	}
	does(t, w, api.OK, Act{Kind: 9, Member: 1, N: 1}, Act{Kind: 4})
	if !w.Relay(0).Over() || w.Relay(0).Count() != 0 {
		t.Error("over")
	}
	does(t, w, api.ErrLost, Act{Kind: 4})
	does(t, w, api.OK, Act{Kind: 8, Fate: nil})
	if w.Relay(0).Over() || w.Relay(0).Count() != 0 {
		t.Error("opened again")
	}
	round1(t, w, 0, 0)
	does(t, w, api.OK, Act{Kind: 8, Relay: 2})
	if w.Relay(0).Count() != 1 {
		t.Error("what was acked is there")
	}
	does(t, w, api.OK, Act{Kind: 9, N: 0}, Act{Kind: 9, N: -1}, Act{Kind: 0, Op: 4})
}

// A device whose sync can't begin is down.
func TestDown(t *testing.T) {
	p := plan()
	p.Sectors = 6
	w := begun(t, p)
	lives := 1
	for w.Do(Act{Kind: 7}) == api.OK {
		lives++
	}
	if w.Device(0) != nil || w.Device(1) == nil {
		t.Error("down")
	}
	does(t, w, api.ErrFull, Act{Kind: 7})
	does(t, w, api.ErrLost, Act{Kind: 0, Op: 1}, Act{Kind: 1, Change: put("n", "v")}, Act{Kind: 2}, Act{Kind: 3}, Act{Kind: 11}, Act{Kind: 12}, Act{Kind: 0, Op: 99})
	if w.Leaked(0) || len(w.Trace()) != 0 {
		t.Error("it does nothing")
	}
	does(t, w, api.OK, Act{Kind: 9, N: 3})
	w = begun(t, p)
	does(t, w, api.OK, Act{Kind: 3}, Act{Kind: 4})
	for w.Do(Act{Kind: 7}) == api.OK {
	}
	does(t, w, api.ErrLost, Act{Kind: 4})
	if len(w.Way()) != 0 {
		t.Error("the letter is gone")
	}
	does(t, w, api.ErrArg, Act{Kind: 13})
}

func TestLeaks(t *testing.T) {
	w := begun(t, plan())
	does(t, w, api.OK, Act{Kind: 12, Who: 1}, Act{Kind: 0, Op: 1}, Act{Kind: 0, Op: 4}, Act{Kind: 12})
	l := w.Trace()
	r := w.Device(0).Ring()
	if len(l) != 2 || len(l[0]) != 32 || len(l[1]) != 128 || !bytes.Equal(l[1][:32], r.Group[:]) || !bytes.Equal(l[1][96:], r.Epochs[2][:]) || !w.Leaked(0) || !w.Leaked(1) || w.Leaked(2) {
		t.Error(len(l))
	}
	does(t, w, api.OK, Act{Kind: 7})
	if !w.Leaked(0) {
		t.Error("what leaked stays so")
	}
}

// A member that is removed gets no later key, and what it writes behind its cut counts nowhere.
func TestTheRemoved(t *testing.T) {
	w := begun(t, plan())
	does(t, w, api.OK, Act{Kind: 2, Filter: filter.Filter{All: true}}, Act{Kind: 0, Op: 1}, Act{Kind: 0, Op: 2, Member: 2})
	for range 2 {
		round1(t, w, 0, 0)
	}
	round1(t, w, 1, 0)
	does(t, w, api.OK, Act{Kind: 1, Who: 1, Change: put("n", "v")})
	round1(t, w, 1, 0)
	round1(t, w, 0, 0)
	does(t, w, api.OK, Act{Kind: 0, Op: 3, Member: 2}, Act{Kind: 1, Change: put("m", "w")}, Act{Kind: 1, Who: 1, Change: put("n", "late")})
	for range 6 {
		round1(t, w, 0, 0)
		round1(t, w, 1, 0)
	}
	a, b := w.Device(0), w.Device(1)
	if len(a.Items()) != 2 || a.Items()[0].Value == "late" || a.Items()[1].Value == "late" || len(b.Ring().Epochs) != 3 || len(a.Ring().Epochs) != 4 {
		t.Error(a.Items(), len(b.Ring().Epochs))
	}
	if group.Is(b.Group(), 2) || b.Heads() != (vector.Vector{3, 2}) || a.Heads() != (vector.Vector{4, 2}) {
		t.Error(b.Heads(), a.Heads())
	}
}
