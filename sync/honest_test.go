package sync_test

import (
	"fmt"
	"math/rand"
	"slices"
	"testing"

	"jalousie/api"
	"jalousie/ask"
	"jalousie/box"
	"jalousie/device"
	"jalousie/disk"
	"jalousie/entry"
	"jalousie/filter"
	"jalousie/item"
	"jalousie/relay"
	. "jalousie/sync"
)

// letter is under way between a device and a relay.
type letter struct {
	device, relay int
	back          bool
	bytes         []byte
}

// play is some devices, and relays that do what they should, with letters that are lost, doubled and late.
type play struct {
	r      *rand.Rand
	ends   []*end
	disks  []*disk.Disk
	relays []*relay.Relay
	way    []letter
}

// deliver takes a letter off, from anywhere among those under way.
func (p *play) deliver(lose, double bool) {
	if len(p.way) == 0 {
		return
	}
	i := p.r.Intn(len(p.way))
	l := p.way[i]
	if !double {
		p.way = slices.Delete(p.way, i, i+1)
	}
	switch {
	case lose:
	case l.back:
		p.ends[l.device].s.Take(l.relay, l.bytes)
	default:
		if b, served := ask.Serve(p.relays[l.relay], l.bytes); served {
			p.way = append(p.way, letter{l.device, l.relay, true, b})
		}
	}
}

func (p *play) crash(t *testing.T) {
	fate := []byte{byte(p.r.Intn(256)), byte(p.r.Intn(256))}
	if i := p.r.Intn(len(p.ends) + 1); i < len(p.ends) {
		n := p.ends[i]
		n.k.Crash(fate)
		d, e := device.Open(n.x, device.Config{Me: n.d.Me(), Secret: secret, Seed: api.Hash{byte(n.d.Me())}}, n.k)
		must(t, e)
		n.d = d
		if n.s, e = New(d); e != api.OK {
			t.Fatal(e)
		}
		return
	}
	k := p.r.Intn(len(p.relays))
	p.disks[k].Crash(fate)
	r, e := relay.Open(p.disks[k])
	must(t, e)
	p.relays[k] = r
}

func (p *play) step(t *testing.T, n int) {
	v := p.ends[p.r.Intn(len(p.ends))]
	switch k := p.r.Intn(40); {
	case k < 12:
		k := p.r.Intn(len(p.relays))
		if b, e := v.s.Ask(k); e == api.OK {
			p.way = append(p.way, letter{v.d.Me() - 1, k, false, b})
		}
	case k < 30:
		p.deliver(k == 12, k == 13)
	case k < 35:
		v.d.Change(put(fmt.Sprint("n", p.r.Intn(5)), fmt.Sprint(n), []string{"x", "y", "z"}[p.r.Intn(3)]))
	case k == 35:
		v.d.SetFilter([]filter.Filter{{}, {All: true}, {Tags: []string{"x"}}, {Tags: []string{"y", "z"}}}[p.r.Intn(4)])
	case k == 36:
		v.d.Control(4, 0)
	case k == 37:
		v.k.Fuse(p.r.Intn(12))
	case k == 38:
		p.disks[p.r.Intn(len(p.disks))].Fuse(p.r.Intn(12))
	default:
		p.crash(t)
	}
}

// Of relays that do what they should no alarm comes, and in the end all is there.
func TestHonestRelays(t *testing.T) {
	for seed := range int64(30) {
		p := &play{r: rand.New(rand.NewSource(seed))}
		x := box.New(seed%2 == 1, api.Hash{byte(seed)})
		for me := 1; me <= 3; me++ {
			p.ends = append(p.ends, begin(t, x, me, 4000))
		}
		for range 2 {
			k := disk.New(4000)
			r, e := relay.Open(k)
			must(t, e)
			p.disks, p.relays = append(p.disks, k), append(p.relays, r)
		}
		must(t, p.ends[0].d.Control(1, 0))
		must(t, p.ends[0].d.Control(2, 2))
		must(t, p.ends[0].d.Control(2, 3))
		for n := range 400 {
			p.step(t, n)
			for _, v := range p.ends {
				if q, raised := v.d.Alarm(); raised {
					t.Fatalf("%d %d: %+v", seed, n, q)
				}
			}
		}
		p.settle(t)
	}
}

// settle lets all come, with nothing lost any more.
func (p *play) settle(t *testing.T) {
	for _, n := range p.ends {
		n.k.Crash(nil)
		d, e := device.Open(n.x, device.Config{Me: n.d.Me(), Secret: secret, Seed: api.Hash{byte(n.d.Me())}}, n.k)
		must(t, e)
		n.d = d
		n.s, e = New(d)
		must(t, e)
	}
	for k := range p.relays {
		p.disks[k].Crash(nil)
		r, e := relay.Open(p.disks[k])
		must(t, e)
		p.relays[k] = r
	}
	for range 300 {
		for _, n := range p.ends {
			for k, r := range p.relays {
				is(t, n.round(t, k, r), api.OK)
			}
		}
	}
	first := p.ends[0].d
	for _, n := range p.ends {
		if n.d.Heads() != first.Heads() || n.d.Group() != first.Group() || !slices.Equal(n.d.Ring().Epochs, first.Ring().Epochs) || len(n.d.Pending()) != 0 {
			t.Error(n.d.Me(), n.d.Heads(), first.Heads(), len(n.d.Pending()))
		}
		must(t, n.d.SetFilter(filter.Filter{All: true}))
		for range 300 {
			is(t, n.round(t, 0, p.relays[0]), api.OK)
		}
		if !slices.EqualFunc(n.d.Items(), first.Items(), item.Same) || len(n.d.Pending()) != 0 {
			t.Error(n.d.Me(), "items")
		}
		for i, h := range p.headers(n) {
			if !entry.Same(h, p.headers(p.ends[0])[i]) {
				t.Error("two headers of one number")
			}
		}
	}
}

func (p *play) headers(n *end) []entry.Header {
	var l []entry.Header
	for w, head := range n.d.Heads() {
		for s := uint64(1); s <= head; s++ {
			q, _ := n.d.Piece(w+1, s)
			l = append(l, q.Header)
		}
	}
	return l
}
