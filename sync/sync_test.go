package sync_test

import (
	"fmt"
	"slices"
	"testing"

	"jalousie/api"
	"jalousie/ask"
	"jalousie/box"
	"jalousie/control"
	"jalousie/device"
	"jalousie/disk"
	"jalousie/entry"
	"jalousie/filter"
	"jalousie/hash"
	"jalousie/index"
	"jalousie/item"
	"jalousie/keys"
	"jalousie/proof"
	"jalousie/relay"
	. "jalousie/sync"
	"jalousie/vector"
)

var (
	secret = api.Hash{1, 2}
	own    = hash.Derive(secret, "jalousie group")
)

func must(t *testing.T, e api.Errno) {
	t.Helper()
	if e != api.OK {
		t.Fatal(e)
	}
}

func is(t *testing.T, got, want api.Errno) {
	t.Helper()
	if got != want {
		t.Errorf("%d, want %d", got, want)
	}
}

// end is a device with its disk and its sync.
type end struct {
	x *box.Box
	k *disk.Disk
	d *device.Device
	s *Sync
}

func begin(t *testing.T, x *box.Box, me, sectors int) *end {
	t.Helper()
	k := disk.New(sectors)
	d, e := device.Open(x, device.Config{Me: me, Secret: secret, Seed: api.Hash{byte(me)}}, k)
	must(t, e)
	s, e := New(d)
	must(t, e)
	return &end{x, k, d, s}
}

func opened(t *testing.T) *relay.Relay {
	t.Helper()
	r, e := relay.Open(disk.New(4000))
	must(t, e)
	return r
}

func put(name, value string, tags ...string) entry.Change {
	return entry.Change{Op: 1, Name: name, Tags: tags, Value: value}
}

// round asks a relay once, and takes what it tells.
func (n *end) round(t *testing.T, i int, r *relay.Relay) api.Errno {
	t.Helper()
	b, e := n.s.Ask(i)
	must(t, e)
	told, served := ask.Serve(r, b)
	if !served {
		t.Fatal("not served")
	}
	return n.s.Take(i, told)
}

// asks asks a relay, and tells what is open then.
func (n *end) asks(t *testing.T, i int) ask.Request {
	t.Helper()
	b, e := n.s.Ask(i)
	must(t, e)
	q, open := n.s.Open(i)
	parsed, e := ask.Parse(b)
	if !open || e != api.OK || fmt.Sprint(parsed) != fmt.Sprint(q) {
		t.Fatal("open", e)
	}
	return q
}

// says are a reply's bytes.
func says(t *testing.T, r ask.Reply) []byte {
	t.Helper()
	b, e := ask.ReplyBytes(r)
	must(t, e)
	return b
}

func TestNew(t *testing.T) {
	n := begin(t, box.New(false, api.Hash{}), 1, 6)
	lives := uint64(1)
	for {
		s, e := New(n.d)
		if e != api.OK {
			if e != api.ErrFull || s != nil {
				t.Error(e, s)
			}
			break
		}
		lives++
		b, e := s.Ask(0)
		must(t, e)
		if q, _ := ask.Parse(b); q.ID != lives<<32+1 {
			t.Error(q.ID)
		}
	}
	n.k.Fuse(0)
	if s, e := New(n.d); e != api.ErrFull && e != api.ErrLost || s != nil {
		t.Error(e)
	}
}

func TestWhatIsAsked(t *testing.T) {
	x := box.New(false, api.Hash{})
	n := begin(t, x, 1, 2000)
	q := n.asks(t, 0)
	if q.Kind != 2 || q.ID != 1<<32+1 || q.Most != 8 || q.Cursor != (vector.Vector{}) || q.Wish.All {
		t.Error(q)
	}
	must(t, n.d.SetFilter(filter.Filter{Tags: []string{"x"}}))
	if q := n.asks(t, 3); q.Kind != 2 || q.ID != 1<<32+2 || !slices.Equal(q.Wish.Tokens, keys.Tokens(x, keys.Of(own), []string{"x"})) {
		t.Error(q)
	}
	must(t, n.d.Control(1, 0))
	must(t, n.d.Change(put("n", "v")))
	for range 2 {
		q := n.asks(t, 0)
		if first, _ := n.d.Piece(1, 1); q.Kind != 1 || !entry.Same(q.Piece.Header, first.Header) || len(q.Piece.Body) == 0 {
			t.Error("push", q.Kind)
		}
	}
	r := opened(t)
	for i := range uint64(2) {
		if n.s.Acked(0) != i {
			t.Error(n.s.Acked(0))
		}
		is(t, n.round(t, 0, r), api.OK)
	}
	if n.s.Acked(0) != 2 || n.s.Acked(1) != 0 || r.Count() != 2 {
		t.Error(n.s.Acked(0))
	}
	if q := n.asks(t, 0); q.Kind != 2 || q.ID != 1<<32+7 || q.Cursor != (vector.Vector{2}) {
		t.Error(q)
	}
	for _, i := range []int{-1, 4} {
		b, e := n.s.Ask(i)
		is(t, e, api.ErrArg)
		q, open := n.s.Open(i)
		if len(b) > 0 || open || q.Kind != 0 || n.s.Acked(i) != 0 {
			t.Error(i)
		}
		is(t, n.s.Take(i, nil), api.ErrArg)
	}
	if _, open := n.s.Open(2); open {
		t.Error("nothing is open")
	}
}

// pair are two members that know of one another, and a relay that has what they have.
func pair(t *testing.T, x *box.Box) (*end, *end, *relay.Relay) {
	t.Helper()
	a, b, r := begin(t, x, 1, 4000), begin(t, x, 2, 4000), opened(t)
	must(t, a.d.Control(1, 0))
	must(t, a.d.Control(2, 2))
	must(t, a.d.SetFilter(filter.Filter{All: true}))
	for range 3 {
		is(t, a.round(t, 0, r), api.OK)
	}
	is(t, b.round(t, 0, r), api.OK)
	if b.d.Group() != a.d.Group() {
		t.Fatal("not the same group")
	}
	return a, b, r
}

func TestPendingIsFetchedInTurn(t *testing.T) {
	for _, x := range []*box.Box{box.New(false, api.Hash{}), box.New(true, api.Hash{})} {
		a, b, r := pair(t, x)
		for i := range 3 {
			must(t, a.d.Change(put(fmt.Sprint(i), "v", "x")))
		}
		for range 3 {
			is(t, a.round(t, 0, r), api.OK)
		}
		is(t, b.round(t, 0, r), api.OK)
		if len(b.d.Pending()) != 0 || len(b.d.Rows()) != 3 {
			t.Fatal("stubs")
		}
		must(t, b.d.SetFilter(filter.Filter{Tags: []string{"x"}}))
		// The turn is 2: then a FETCH comes each other time, of the place that goes round.
		for turn := 2; turn < 10; turn++ {
			q := b.asks(t, 0)
			switch place := turn / 2 % 3; {
			case turn%2 == 0:
				if q.Kind != 2 || q.Cursor != b.d.Heads() || len(q.Wish.Tokens) != 1 {
					t.Error(turn, q)
				}
			case q.Kind != 3 || q.Writer != 1 || q.Seq != uint64(3+place):
				t.Error(turn, q)
			}
		}
		for range 6 {
			is(t, b.round(t, 0, r), api.OK)
		}
		if len(b.d.Pending()) != 0 || !slices.EqualFunc(b.d.Items(), a.d.Items(), item.Same) || len(b.d.Items()) != 3 {
			t.Error(b.d.Pending())
		}
	}
}

func TestTakesErrors(t *testing.T) {
	a, _, _ := pair(t, box.New(false, api.Hash{}))
	good := ask.Reply{Kind: 2, Heads: vector.Vector{2}}
	is(t, a.s.Take(0, says(t, good)), api.ErrOld)
	q := a.asks(t, 0)
	is(t, a.s.Take(0, nil), api.ErrForm)
	is(t, a.s.Take(0, []byte("none")), api.ErrForm)
	good.ID = q.ID - 1
	is(t, a.s.Take(0, says(t, good)), api.ErrOld)
	good.ID, good.Kind = q.ID, 1
	is(t, a.s.Take(0, says(t, good)), api.ErrOld)
	good.Kind = 2
	is(t, a.s.Take(1, says(t, good)), api.ErrOld)
	if _, open := a.s.Open(0); !open {
		t.Error("it stays open")
	}
	is(t, a.s.Take(0, says(t, good)), api.OK)
	if _, open := a.s.Open(0); open {
		t.Error("nothing is open any more")
	}
	is(t, a.s.Take(0, says(t, good)), api.ErrOld)
	q = a.asks(t, 0)
	late := says(t, ask.Reply{ID: q.ID, Kind: q.Kind, Heads: vector.Vector{2}})
	a.asks(t, 0)
	is(t, a.s.Take(0, late), api.ErrOld)
}

func TestPushes(t *testing.T) {
	a, _, _ := pair(t, box.New(false, api.Hash{}))
	must(t, a.d.Change(put("n", "v")))
	q := a.asks(t, 0)
	if q.Kind != 1 || q.Piece.Header.Seq != 3 {
		t.Fatal(q.Kind)
	}
	for _, e := range []api.Errno{api.ErrFull, api.ErrFork, api.ErrNone} {
		q := a.asks(t, 0)
		is(t, a.s.Take(0, says(t, ask.Reply{ID: q.ID, Kind: 1, Err: e, Heads: vector.Vector{3, 1}})), e)
		if a.s.Acked(0) != 2 || a.d.Floor(0) != (vector.Vector{2}) {
			t.Error(a.s.Acked(0), a.d.Floor(0))
		}
	}
	q = a.asks(t, 0)
	is(t, a.s.Take(0, says(t, ask.Reply{ID: q.ID, Kind: 1, Heads: vector.Vector{4, 1}})), api.OK)
	if a.s.Acked(0) != 3 || a.d.Floor(0) != (vector.Vector{4, 1}) {
		t.Error(a.s.Acked(0), a.d.Floor(0))
	}
	// The floor is that which the device had when it asked.
	q = a.asks(t, 1)
	must(t, a.d.Lift(1, vector.Vector{9}))
	is(t, a.s.Take(1, says(t, ask.Reply{ID: q.ID, Kind: 1, Heads: vector.Vector{1}})), api.OK)
	if a.d.Floor(1) != (vector.Vector{9}) {
		t.Error(a.d.Floor(1))
	}
}

func alarmed(t *testing.T, n *end, want proof.Proof) {
	t.Helper()
	p, raised := n.d.Alarm()
	if !raised || !proof.Check(n.x, n.d.Ring(), p) || p.Kind != want.Kind || p.Writer != want.Writer || p.Floor != want.Floor || p.Head != want.Head ||
		!entry.Same(p.A, want.A) || !entry.Same(p.B, want.B) || !slices.Equal(p.Wanted, want.Wanted) {
		t.Errorf("%v %+v, want %+v", raised, p, want)
	}
	b, e := n.s.Ask(0)
	is(t, e, api.ErrState)
	if len(b) > 0 {
		t.Error("asked")
	}
	if _, e := n.s.Ask(7); e != api.ErrArg {
		t.Error(e)
	}
}

func TestFloorsAreShown(t *testing.T) {
	for kind := 1; kind <= 3; kind++ {
		x := box.New(false, api.Hash{})
		a, b, r := pair(t, x)
		must(t, a.d.Change(put("n", "v", "x")))
		is(t, a.round(t, 0, r), api.OK)
		is(t, b.round(t, 0, r), api.OK)
		must(t, b.d.Lift(0, vector.Vector{3, 0, 5, 6}))
		must(t, b.d.SetFilter(filter.Filter{All: true}))
		var q ask.Request
		for q = b.asks(t, 0); q.Kind != kind; q = b.asks(t, 0) {
			if kind == 1 {
				must(t, b.d.Change(put("m", "w")))
			}
		}
		is(t, b.s.Take(0, says(t, ask.Reply{ID: q.ID, Kind: kind, Err: api.ErrLost, Heads: vector.Vector{3, 0, 2, 1}})), api.ErrFloor)
		alarmed(t, b, proof.Proof{Kind: 3, Writer: 3, Floor: 5, Head: 2})
		if _, open := b.s.Open(0); open || b.d.Floor(0) != (vector.Vector{3, 0, 5, 6}) {
			t.Error("open")
		}
	}
	// A PUSH that is OK, but isn't told.
	a, _, _ := pair(t, box.New(false, api.Hash{}))
	must(t, a.d.Change(put("n", "v")))
	q := a.asks(t, 0)
	is(t, a.s.Take(0, says(t, ask.Reply{ID: q.ID, Kind: 1, Heads: vector.Vector{2}})), api.ErrFloor)
	alarmed(t, a, proof.Proof{Kind: 3, Writer: 1, Floor: 3, Head: 2})
	if a.s.Acked(0) != 2 {
		t.Error(a.s.Acked(0))
	}
}

func TestOmitsAreShown(t *testing.T) {
	for _, x := range []*box.Box{box.New(false, api.Hash{}), box.New(true, api.Hash{})} {
		a, b, r := pair(t, x)
		must(t, b.d.SetFilter(filter.Filter{Tags: []string{"x", "z"}}))
		must(t, a.d.Change(put("n", "v", "y")))
		must(t, a.d.Change(put("m", "v", "x", "y")))
		must(t, a.d.Control(4, 0))
		for range 3 {
			is(t, a.round(t, 0, r), api.OK)
		}
		var stubs []index.Piece
		for s := uint64(3); s <= 5; s++ {
			p, _ := r.Fetch(1, s)
			stubs = append(stubs, index.Piece{Header: p.Header})
		}
		wish := b.d.Wish().Tokens
		// A stub of what isn't wanted, of a control, and one that isn't right, show nothing.
		q := b.asks(t, 0)
		wrong := stubs[1]
		wrong.Header.Time++
		is(t, b.s.Take(0, says(t, ask.Reply{ID: q.ID, Kind: 2, Heads: vector.Vector{5}, Pieces: []index.Piece{stubs[2], wrong}})), api.OK)
		is(t, b.s.Take(0, says(t, ask.Reply{ID: q.ID, Kind: 2, Heads: vector.Vector{5}, Pieces: stubs})), api.ErrOld)
		if b.d.Heads() != (vector.Vector{2}) {
			t.Error(b.d.Heads())
		}
		q = b.asks(t, 0)
		// The wish is that which was asked with.
		must(t, b.d.SetFilter(filter.Filter{Tags: []string{"y"}}))
		is(t, b.s.Take(0, says(t, ask.Reply{ID: q.ID, Kind: 2, Heads: vector.Vector{5}, Pieces: stubs})), api.ErrOmit)
		alarmed(t, b, proof.Proof{Kind: 4, A: stubs[1].Header, Wanted: wish})
		if b.d.Heads() != (vector.Vector{2}) {
			t.Error("nothing is taken", b.d.Heads())
		}
	}
	x := box.New(false, api.Hash{})
	a, b, r := pair(t, x)
	must(t, b.d.SetFilter(filter.Filter{All: true}))
	must(t, a.d.Change(put("n", "v", "y")))
	is(t, a.round(t, 0, r), api.OK)
	p, _ := r.Fetch(1, 3)
	q := b.asks(t, 0)
	is(t, b.s.Take(0, says(t, ask.Reply{ID: q.ID, Kind: 2, Heads: vector.Vector{5}, Pieces: []index.Piece{{Header: p.Header}}})), api.ErrOmit)
	alarmed(t, b, proof.Proof{Kind: 4, A: p.Header})
}

// The floor is looked for ahead of what is left out.
func TestTheFirstThingIsShown(t *testing.T) {
	x := box.New(false, api.Hash{})
	a, b, r := pair(t, x)
	must(t, b.d.SetFilter(filter.Filter{All: true}))
	must(t, a.d.Change(put("n", "v", "y")))
	is(t, a.round(t, 0, r), api.OK)
	p, _ := r.Fetch(1, 3)
	q := b.asks(t, 0)
	is(t, b.s.Take(0, says(t, ask.Reply{ID: q.ID, Kind: 2, Heads: vector.Vector{1}, Pieces: []index.Piece{{Header: p.Header}}})), api.ErrFloor)
	alarmed(t, b, proof.Proof{Kind: 3, Writer: 1, Floor: 2, Head: 1})
}

// forged is an entry of the writer 2 with the group's keys that no device made.
func forged(t *testing.T, n *end, change func(h *entry.Header)) index.Piece {
	t.Helper()
	key, _ := control.Key(api.Hash{1}, 2)
	h := entry.Header{Writer: 2, Seq: 1, Epoch: 2, Time: 9, Knows: [6]uint64{2}}
	change(&h)
	h, body, e := entry.Make(n.x, keys.Of(key), h, []byte("forged"))
	must(t, e)
	return index.Piece{Header: h, Body: body}
}

func TestForksAreMet(t *testing.T) {
	x := box.New(false, api.Hash{})
	for kind := 2; kind <= 3; kind++ {
		a, b, r := pair(t, x)
		must(t, b.d.Change(put("n", "v", "x")))
		must(t, a.d.SetFilter(filter.Filter{}))
		is(t, b.round(t, 0, r), api.OK)
		is(t, a.round(t, 0, r), api.OK)
		must(t, a.d.SetFilter(filter.Filter{All: true}))
		held, _ := a.d.Piece(2, 1)
		fork := forged(t, a, func(h *entry.Header) {})
		chain := forged(t, a, func(h *entry.Header) { h.Seq, h.Knows[1], h.Prev = 2, 1, api.Hash{3} })
		next := forged(t, a, func(h *entry.Header) { h.Writer, h.Knows = 3, [6]uint64{2} })
		var q ask.Request
		for q = a.asks(t, 0); q.Kind != kind; q = a.asks(t, 0) {
		}
		if kind == 2 {
			is(t, a.s.Take(0, says(t, ask.Reply{ID: q.ID, Kind: 2, Heads: vector.Vector{2, 7, 7}, Pieces: []index.Piece{next, chain, fork}})), api.ErrChain)
			alarmed(t, a, proof.Proof{Kind: 2, A: held.Header, B: chain.Header})
			if a.d.Heads() != (vector.Vector{2, 1, 1}) || a.d.Floor(0) != (vector.Vector{2, 1}) {
				t.Error(a.d.Heads(), a.d.Floor(0))
			}
			continue
		}
		// Of a FETCH the pieces that weren't asked for show nothing.
		is(t, a.s.Take(0, says(t, ask.Reply{ID: q.ID, Kind: 3, Heads: vector.Vector{2, 7}, Pieces: []index.Piece{chain, next}})), api.OK)
		if a.d.Heads() != (vector.Vector{2, 1}) || a.d.Floor(0) != (vector.Vector{2, 7}) {
			t.Error(a.d.Heads(), a.d.Floor(0))
		}
		for q = a.asks(t, 1); q.Kind != 3; q = a.asks(t, 1) {
			a.s.Take(1, says(t, ask.Reply{ID: q.ID, Kind: q.Kind, Heads: vector.Vector{2}}))
		}
		is(t, a.s.Take(1, says(t, ask.Reply{ID: q.ID, Kind: 3, Heads: vector.Vector{2, 7}, Pieces: []index.Piece{fork}})), api.ErrFork)
		alarmed(t, a, proof.Proof{Kind: 1, A: held.Header, B: fork.Header})
	}
}

// Pieces that wait for one another are taken, in whatever order they are told.
func TestPiecesAreTakenAgainAndAgain(t *testing.T) {
	x := box.New(false, api.Hash{})
	a, _, _ := pair(t, x)
	for i := range 5 {
		must(t, a.d.Change(put(fmt.Sprint(i), "v")))
	}
	c := begin(t, x, 2, 4000)
	var l []index.Piece
	for s := uint64(7); s >= 1; s-- {
		p, _ := a.d.Piece(1, s)
		l = append(l, p)
	}
	q := c.asks(t, 0)
	bad := l[3]
	bad.Body = nil
	is(t, c.s.Take(0, says(t, ask.Reply{ID: q.ID, Kind: 2, Err: api.ErrNone, Heads: vector.Vector{7}, Pieces: append([]index.Piece{bad}, l[:7]...)})), api.OK)
	if c.d.Heads() != (vector.Vector{7}) || c.d.Floor(0) != (vector.Vector{7}) {
		t.Error(c.d.Heads())
	}
}

func TestFetchesErrors(t *testing.T) {
	x := box.New(false, api.Hash{})
	a, b, r := pair(t, x)
	must(t, a.d.Change(put("n", "v", "x")))
	is(t, a.round(t, 0, r), api.OK)
	is(t, b.round(t, 0, r), api.OK)
	must(t, b.d.SetFilter(filter.Filter{All: true}))
	var q ask.Request
	for q = b.asks(t, 0); q.Kind != 3; q = b.asks(t, 0) {
	}
	p, _ := a.d.Piece(1, 3)
	is(t, b.s.Take(0, says(t, ask.Reply{ID: q.ID, Kind: 3, Err: api.ErrNone, Heads: vector.Vector{4}, Pieces: []index.Piece{p}})), api.OK)
	if len(b.d.Pending()) != 1 || b.d.Floor(0) != (vector.Vector{4}) {
		t.Error(b.d.Pending(), b.d.Floor(0))
	}
	for q = b.asks(t, 0); q.Kind != 3; q = b.asks(t, 0) {
	}
	is(t, b.s.Take(0, says(t, ask.Reply{ID: q.ID, Kind: 3, Heads: vector.Vector{4}, Pieces: []index.Piece{{Header: p.Header}, p}})), api.OK)
	if len(b.d.Pending()) != 0 {
		t.Error(b.d.Pending())
	}
}

func TestFullAndOver(t *testing.T) {
	x := box.New(false, api.Hash{})
	a, _, r := pair(t, x)
	must(t, a.d.Change(put("n", "v", "x")))
	is(t, a.round(t, 0, r), api.OK)
	c := begin(t, x, 2, 22)
	is(t, c.round(t, 0, r), api.ErrFull)
	if c.d.Heads() == (vector.Vector{3}) || c.d.Heads() == (vector.Vector{}) || c.d.Floor(0) != (vector.Vector{}) {
		t.Error("what had room is taken", c.d.Heads(), c.d.Floor(0))
	}
	// An alarm that can't be kept isn't raised, and that is told.
	c = begin(t, x, 2, 22)
	must(t, c.d.Lift(0, vector.Vector{5}))
	for e := api.OK; e == api.OK; {
		_, e = c.d.Begin()
	}
	q := c.asks(t, 0)
	is(t, c.s.Take(0, says(t, ask.Reply{ID: q.ID, Kind: 2, Heads: vector.Vector{4}})), api.ErrFull)
	if _, raised := c.d.Alarm(); raised {
		t.Error("raised")
	}
	q = c.asks(t, 1)
	is(t, c.s.Take(1, says(t, ask.Reply{ID: q.ID, Kind: 2, Heads: vector.Vector{4}})), api.ErrFull)
	d := begin(t, x, 2, 400)
	q = d.asks(t, 0)
	d.k.Fuse(0)
	is(t, d.s.Take(0, says(t, ask.Reply{ID: q.ID, Kind: 2, Heads: vector.Vector{4}})), api.ErrLost)
	b, e := d.s.Ask(0)
	is(t, e, api.ErrLost)
	if _, open := d.s.Open(0); open || len(b) > 0 {
		t.Error("open")
	}
}

func TestMemoryIsNotShared(t *testing.T) {
	a, _, _ := pair(t, box.New(false, api.Hash{}))
	must(t, a.d.Change(put("n", "v", "x")))
	q := a.asks(t, 0)
	want := fmt.Sprint(q)
	q.Piece.Body[0]++
	q.Piece.Header.Tokens[0][0]++
	if q, _ := a.s.Open(0); fmt.Sprint(q) != want {
		t.Error("shared")
	}
	b := begin(t, box.New(false, api.Hash{}), 1, 100)
	must(t, b.d.SetFilter(filter.Filter{Tags: []string{"x"}}))
	q = b.asks(t, 0)
	q.Wish.Tokens[0][0]++
	if q, _ := b.s.Open(0); !slices.Equal(q.Wish.Tokens, b.d.Wish().Tokens) {
		t.Error("shared")
	}
}
