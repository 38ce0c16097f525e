package world_test

import (
	"bytes"
	"fmt"
	"math/rand"
	"slices"
	"strings"
	"testing"

	"jalousie/api"
	"jalousie/ask"
	"jalousie/control"
	"jalousie/device"
	"jalousie/entry"
	"jalousie/filter"
	"jalousie/group"
	"jalousie/index"
	"jalousie/item"
	"jalousie/keys"
	"jalousie/proof"
	"jalousie/vector"
	. "jalousie/world"
)

// words is what items say in a script: names and tags in order, and how long a value is.
type words struct {
	names, tags []string
	value       func(n int) string
}

var (
	plain = words{
		[]string{"ant", "bee", "cat", "dog"}, []string{"k", "l", "m"},
		func(n int) string { return strings.Repeat("v", n%20) },
	}
	other = words{
		[]string{"abc", "def", "ghi", "xyz"}, []string{"a", "y", "z"},
		func(n int) string { return strings.Repeat("w", 19-n%20) },
	}
)

func (s words) change(r *rand.Rand) entry.Change {
	c := entry.Change{Op: 1 + r.Intn(3), Name: s.names[r.Intn(len(s.names))]}
	n, m := r.Intn(3), r.Intn(1000)
	if c.Op != 2 {
		c.Tags = slices.Clone(s.tags[n : n+r.Intn(3-n)])
	}
	if c.Op == 1 {
		c.Value = s.value(m)
	}
	return c
}

func (s words) filter(r *rand.Rand) filter.Filter {
	if r.Intn(3) == 0 {
		return filter.Filter{All: true}
	}
	n := r.Intn(3)
	return filter.Filter{Tags: slices.Clone(s.tags[n : n+r.Intn(4-n)])}
}

// start are the acts by which all devices become members.
func start(devices int) []Act {
	l := []Act{{Kind: 0, Op: 1}}
	for m := 2; m <= devices; m++ {
		l = append(l, Act{Kind: 0, Op: 2, Member: m})
	}
	return l
}

// next is an act by chance, that doesn't hang on what a world holds.
func next(r *rand.Rand, s words, devices int) Act {
	a := Act{Who: r.Intn(devices), Relay: r.Intn(2), I: r.Intn(20)}
	switch k := r.Intn(100); {
	case k < 30:
		a.Kind = 3
	case k < 66:
		a.Kind = 4
	case k < 80:
		a.Kind, a.Change = 1, s.change(r)
	case k < 84:
		a.Kind, a.Filter = 2, s.filter(r)
	case k < 86:
		a.Kind, a.Op, a.Who = 0, 4, r.Intn(2)
	case k < 88:
		a.Kind = 5
	case k < 90:
		a.Kind = 6
	case k < 93:
		a.Kind, a.N, a.Member = 9, r.Intn(15), r.Intn(2)
	case k < 96:
		a.Kind, a.Fate = 7, []byte{byte(r.Intn(256)), byte(r.Intn(256)), byte(r.Intn(256))}
	case k < 98:
		a.Kind, a.Fate = 8, []byte{byte(r.Intn(256)), byte(r.Intn(256))}
	default:
		a.Kind = 11
	}
	return a
}

// lots is a plan by chance.
func lots(seed int64, ideal bool) Plan {
	sectors := []int{4000, 4000, 4000, 200}[seed%4]
	return Plan{Ideal: ideal, Devices: 2 + int(seed)%3, Relays: 1 + int(seed)%2, Sectors: sectors, Honest: [2]bool{true, true}, Seed: api.Hash{byte(seed), 1}, Secret: api.Hash{byte(seed), 2}}
}

// P1: two scripts that differ in what items say alone are the same to relays, in ideal mode.
func TestBlind(t *testing.T) {
	for seed := range int64(24) {
		p := lots(seed, true)
		a, b := begun(t, p), begun(t, p)
		ra, rb := rand.New(rand.NewSource(seed)), rand.New(rand.NewSource(seed))
		for _, act := range start(p.Devices) {
			is(t, a.Do(act), b.Do(act))
		}
		for n := range 400 {
			x, y := next(ra, plain, p.Devices), next(rb, other, p.Devices)
			if e, f := a.Do(x), b.Do(y); e != f {
				t.Fatal(seed, n, x.Kind, e, f)
			}
		}
		if l, m := a.Trace(), b.Trace(); !slices.EqualFunc(l, m, bytes.Equal) || len(l) < 20 || a.Box().Draws() != b.Box().Draws() {
			t.Fatal(seed, "what relays are told", len(l), len(m))
		}
	}
}

func is(t *testing.T, got, want api.Errno) {
	t.Helper()
	if got != want {
		t.Errorf("%d, want %d", got, want)
	}
}

// readable is what a device holds, without what is blinded or sealed.
func readable(d *device.Device) string {
	if d == nil {
		return "down"
	}
	var l []string
	for _, i := range d.Items() {
		l = append(l, fmt.Sprint(i.Name, i.Tags, i.Value, i.Alive, i.Known, i.Newest.Writer, i.Newest.Seq))
	}
	slices.Sort(l)
	for _, h := range d.Pending() {
		l = append(l, fmt.Sprint(h.Writer, h.Seq))
	}
	for _, r := range d.Rows() {
		l = append(l, fmt.Sprint(r.Header.Writer, r.Header.Seq, r.Known, r.Change))
	}
	_, raised := d.Alarm()
	return fmt.Sprint(l, d.Heads(), d.Group(), len(d.Ring().Epochs), d.Filter(), raised, d.Floor(0), d.Floor(1), d.Over())
}

// P1: ideal and real boxes come to the same.
func TestIdealAndReal(t *testing.T) {
	for seed := range int64(24) {
		p, q := lots(seed, true), lots(seed, false)
		a, b := begun(t, p), begun(t, q)
		ra, rb := rand.New(rand.NewSource(seed)), rand.New(rand.NewSource(seed))
		for _, act := range start(p.Devices) {
			is(t, a.Do(act), b.Do(act))
		}
		for n := range 400 {
			x, y := next(ra, plain, p.Devices), next(rb, plain, p.Devices)
			if e, f := a.Do(x), b.Do(y); e != f {
				t.Fatal(seed, n, x.Kind, e, f)
			}
		}
		for i := range p.Devices {
			if l, m := readable(a.Device(i)), readable(b.Device(i)); l != m {
				t.Fatalf("%d: %s\n%s", seed, l, m)
			}
		}
		for i, l := range a.Trace() {
			if len(l) != len(b.Trace()[i]) {
				t.Fatal(seed, i)
			}
		}
	}
}

// sound tells whether what a device tells is the fold of the entries that it holds.
func sound(x *World, d *device.Device) string {
	r := d.Ring()
	set := keys.Of(r.Group)
	var headers []entry.Header
	for w, head := range d.Heads() {
		for s := uint64(1); s <= head; s++ {
			p, _ := d.Piece(w+1, s)
			headers = append(headers, p.Header)
		}
	}
	ordered, behind := vector.Order(vector.Vector{}, headers)
	if behind != d.Heads() {
		return "not causal"
	}
	var g group.Group
	for _, h := range ordered {
		p, _ := d.Piece(h.Writer, h.Seq)
		if !proof.Right(x.Box(), r, h) || len(p.Body) > 0 && !index.Whole(p) {
			return "not right"
		}
		if h.Control {
			text, _ := entry.Open(x.Box(), set, h, p.Body)
			c, _ := control.Parse(text)
			if next, e := group.Apply(g, h, c); e == api.OK {
				g = next
			}
		}
	}
	var rows []item.Row
	for _, h := range ordered {
		p, _ := d.Piece(h.Writer, h.Seq)
		if h.Control || !group.Counts(g, h.Writer, h.Seq) {
			continue
		}
		s, _ := proof.Keys(r, h)
		text, _ := entry.Open(x.Box(), s, h, p.Body)
		c, e := entry.ParseChange(text)
		rows = append(rows, item.Row{Header: h, Known: e == api.OK, Change: c})
	}
	switch {
	case g != d.Group():
		return "another group"
	case !slices.EqualFunc(filter.Shown(d.Filter(), rows), d.Items(), item.Same):
		return "other items"
	case !slices.EqualFunc(filter.Pending(filter.Of(x.Box(), set, d.Filter()), rows), d.Pending(), entry.Same):
		return "other pending"
	}
	return ""
}

// lie turns a letter of a relay: what it tells is something that was told, or could be, but isn't what it should tell.
func lie(r *rand.Rand, w *World) Act {
	a := Act{Kind: 10, I: r.Intn(20)}
	l := w.Way()
	if len(l) == 0 {
		return a
	}
	told, e := ask.ParseReply(l[a.I%len(l)].Bytes)
	if e != api.OK {
		return a
	}
	switch r.Intn(7) {
	case 0:
		told.Heads[r.Intn(4)] = uint64(r.Intn(5))
	case 1:
		told.Pieces = told.Pieces[:r.Intn(len(told.Pieces)+1)]
	case 2:
		for i := range told.Pieces {
			told.Pieces[i].Body = nil
		}
	case 3:
		r.Shuffle(len(told.Pieces), func(i, j int) { told.Pieces[i], told.Pieces[j] = told.Pieces[j], told.Pieces[i] })
	case 4:
		for i := range told.Pieces {
			told.Pieces[i].Header.Time++
		}
	case 5:
		for _, p := range told.Pieces {
			if len(p.Body) > 0 {
				p.Body[0]++
			}
		}
	default:
		told.Err = api.Errno(r.Intn(15))
	}
	a.Bytes, _ = ask.ReplyBytes(told)
	return a
}

// P2: whatever relays say, a device has raised the alarm, with a proof, or what it tells is the fold of what it holds, and all of that was made.
func TestSafe(t *testing.T) {
	alarms := 0
	for seed := range int64(24) {
		p := lots(seed, seed%3 == 0)
		p.Honest = [2]bool{}
		w := begun(t, p)
		r := rand.New(rand.NewSource(seed))
		for _, act := range start(p.Devices) {
			w.Do(act)
		}
		made := make(map[[2]int]entry.Header)
		for n := range 300 {
			act := next(r, plain, p.Devices)
			if r.Intn(8) == 0 {
				act = lie(r, w)
			}
			w.Do(act)
			own(t, w, made)
			for i := range p.Devices {
				d := w.Device(i)
				if d == nil {
					continue
				}
				if q, raised := d.Alarm(); raised {
					if alarms++; !proof.Check(w.Box(), d.Ring(), q) {
						t.Fatal(seed, n, "no proof", q)
					}
				}
				if s := sound(w, d); s != "" {
					t.Fatal(seed, n, i, s)
				}
				for writer, head := range d.Heads() {
					for s := uint64(1); s <= head; s++ {
						p, _ := d.Piece(writer+1, s)
						if !entry.Same(p.Header, made[[2]int{writer, int(s)}]) {
							t.Fatal(seed, n, "nobody made it")
						}
					}
				}
			}
		}
	}
	if alarms == 0 {
		t.Error("no lie was found")
	}
}

// own puts what devices hold of their own to what was made: there are no two headers of one number.
func own(t *testing.T, w *World, made map[[2]int]entry.Header) {
	t.Helper()
	for i := range 4 {
		d := w.Device(i)
		if d == nil {
			continue
		}
		for s := uint64(1); s <= d.Heads()[i]; s++ {
			p, _ := d.Piece(i+1, s)
			k := [2]int{i, int(s)}
			if h, is := made[k]; is && !entry.Same(h, p.Header) {
				t.Fatal("two headers of one number")
			}
			made[k] = p.Header
		}
	}
}

// P3, P4: with honest relays no alarm comes, whatever is lost or crashes; nothing is told in two ways; what a relay told, it holds.
func TestHonestAndCrashes(t *testing.T) {
	for seed := range int64(40) {
		p := lots(seed, seed%3 == 0)
		w := begun(t, p)
		r := rand.New(rand.NewSource(seed))
		for _, act := range start(p.Devices) {
			w.Do(act)
		}
		made, pushed := make(map[[2]int]entry.Header), make(map[[2]int]entry.Header)
		heads := make([]vector.Vector, p.Relays)
		for n := range 400 {
			act := next(r, plain, p.Devices)
			before := readable(w.Device(act.Who % p.Devices))
			e := w.Do(act)
			if e != api.OK && act.Kind < 3 && readable(w.Device(act.Who%p.Devices)) != before && e != api.ErrLost {
				t.Fatal(seed, n, "what is refused changes nothing", e)
			}
			own(t, w, made)
			for i := range p.Devices {
				if d := w.Device(i); d != nil {
					if q, raised := d.Alarm(); raised {
						t.Fatalf("%d %d: %+v", seed, n, q)
					}
				}
			}
			for k := range heads {
				if y := w.Relay(k); y != nil {
					if !vector.Great(y.Heads(), heads[k]) {
						t.Fatal(seed, n, "what was told is gone")
					}
					heads[k] = y.Heads()
				}
			}
		}
		for _, b := range w.Trace() {
			q, e := ask.Parse(b)
			is(t, e, api.OK)
			k := [2]int{q.Piece.Header.Writer, int(q.Piece.Header.Seq)}
			if h, was := pushed[k]; q.Kind == 1 && was && !entry.Same(h, q.Piece.Header) {
				t.Fatal(seed, "two headers of one number are told")
			}
			pushed[k] = q.Piece.Header
		}
	}
}

// P5: once all is up, and nothing is lost, all members come to hold the same, and nothing is pending.
func TestComes(t *testing.T) {
	for seed := range int64(16) {
		p := lots(seed, seed%2 == 0)
		p.Sectors = 8000
		w := begun(t, p)
		r := rand.New(rand.NewSource(seed))
		for _, act := range start(p.Devices) {
			is(t, w.Do(act), api.OK)
		}
		for range 300 {
			w.Do(next(r, plain, p.Devices))
		}
		for i := range p.Devices {
			is(t, w.Do(Act{Kind: 7, Who: i}), api.OK)
		}
		for k := range p.Relays {
			is(t, w.Do(Act{Kind: 8, Relay: k}), api.OK)
		}
		for len(w.Way()) > 0 {
			w.Do(Act{Kind: 5})
		}
		for range 400 {
			for i := range p.Devices {
				for k := range p.Relays {
					round1(t, w, i, k)
				}
			}
		}
		first := w.Device(0)
		for i := range p.Devices {
			d := w.Device(i)
			if d.Heads() != first.Heads() || d.Group() != first.Group() || !slices.Equal(d.Ring().Epochs, first.Ring().Epochs) || len(d.Pending()) != 0 || len(d.Ring().Epochs) != d.Group().Epoch+1 {
				t.Error(seed, i, d.Heads(), first.Heads(), len(d.Pending()))
			}
			if s := sound(w, d); s != "" {
				t.Error(seed, i, s)
			}
		}
	}
}
