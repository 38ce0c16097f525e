package control_test

import (
	"bytes"
	"slices"
	"testing"

	"jalousie/api"
	"jalousie/box"
	. "jalousie/control"
	"jalousie/hash"
	"jalousie/keys"
)

var (
	seed   = api.Hash{1, 2}
	secret = api.Hash{3, 4}
)

func same(a, b Control) bool {
	return a.Op == b.Op && a.Member == b.Member && a.Cut == b.Cut && bytes.Equal(a.Hand, b.Hand) &&
		slices.EqualFunc(a.Slots[:], b.Slots[:], bytes.Equal)
}

func fill(c byte) []byte {
	return bytes.Repeat([]byte{c}, 48)
}

// controls is one of each op.
func controls() []Control {
	slots := [6][]byte{0: fill(1), 2: fill(3)}
	return []Control{
		{Op: 1, Slots: slots}, {Op: 2, Member: 3, Slots: slots}, {Op: 3, Member: 6, Cut: 1 << 20, Slots: slots},
		{Op: 4, Slots: slots}, {Op: 5, Member: 1, Hand: fill(9)},
	}
}

func TestKeys(t *testing.T) {
	key := seed
	for epoch := 255; epoch >= 0; epoch-- {
		if k, e := Key(seed, epoch); e != api.OK || k != key {
			t.Fatal(epoch, e)
		}
		key = hash.Derive(key, "jalousie back")
	}
	for _, epoch := range []int{-1, 256, -1 << 63, 1<<63 - 1} {
		if k, e := Key(seed, epoch); e != api.ErrArg || k != (api.Hash{}) {
			t.Error(epoch, e)
		}
	}
	for _, c := range [][2]int{{255, 255}, {255, 3}, {7, 7}, {7, 6}, {7, 0}, {0, 0}} {
		from, _ := Key(seed, c[0])
		want, _ := Key(seed, c[1])
		if k, e := Back(from, c[0], c[1]); e != api.OK || k != want {
			t.Error(c, e)
		}
	}
	for _, c := range [][2]int{{3, 4}, {0, -1}, {-1, -1}, {256, 255}, {256, 256}, {-1, 0}, {1<<63 - 1, 0}, {5, -1 << 63}} {
		if k, e := Back(seed, c[0], c[1]); e != api.ErrArg || k != (api.Hash{}) {
			t.Error(c, e)
		}
	}
}

func TestBytesAndParse(t *testing.T) {
	for _, c := range controls() {
		b, e := Bytes(c)
		if !Formed(c) || e != api.OK {
			t.Fatal(c.Op, e)
		}
		if back, e := Parse(b); e != api.OK || !same(back, c) {
			t.Error(c.Op, e)
		}
		for n := range b {
			if back, e := Parse(b[:n]); e != api.ErrForm || !same(back, Control{}) {
				t.Error(c.Op, n, e)
			}
		}
		if _, e := Parse(append(bytes.Clone(b), 0)); e != api.ErrForm {
			t.Error(c.Op, e)
		}
		for i := range 12 {
			turned := bytes.Clone(b)
			turned[i] ^= 1 << (i % 8)
			if back, e := Parse(turned); e == api.OK {
				if again, e := Bytes(back); e != api.OK || !bytes.Equal(again, turned) {
					t.Error(c.Op, i, e)
				}
			}
		}
	}
	b, _ := Bytes(Control{Op: 3, Member: 2, Cut: 300, Slots: [6][]byte{1: fill(7)}})
	if want := slices.Concat([]byte{3, 2, 172, 2, 0, 48}, fill(7), []byte{0, 0, 0, 0, 0}); !bytes.Equal(b, want) {
		t.Error(b)
	}
	b, _ = Bytes(controls()[4])
	if want := append([]byte{5, 1, 0, 0, 0, 0, 0, 0, 0, 48}, fill(9)...); !bytes.Equal(b, want) {
		t.Error(b)
	}
}

func TestNotFormed(t *testing.T) {
	refused := func(what string, c Control) {
		t.Helper()
		if b, e := Bytes(c); Formed(c) || e != api.ErrArg || len(b) > 0 {
			t.Error(what, c.Op, e)
		}
	}
	refused("none", Control{})
	for _, c := range controls() {
		for what, change := range map[string]func(c *Control){
			"op": func(c *Control) { c.Op = 0 }, "op above": func(c *Control) { c.Op = 6 }, "op below": func(c *Control) { c.Op = -1 },
			"member": func(c *Control) {
				if c.Member = 7; c.Op == 1 || c.Op == 4 {
					c.Member = 1
				}
			},
			"member below":        func(c *Control) { c.Member = -1 },
			"cut":                 func(c *Control) { c.Cut = 1<<20 + 1 },
			"slots of a length":   func(c *Control) { c.Slots[4] = fill(1)[:47] },
			"slots that are long": func(c *Control) { c.Slots[4] = append(fill(1), 1) },
			"hand of a length":    func(c *Control) { c.Hand = fill(1)[:47] },
			"the other's parts": func(c *Control) {
				if c.Hand = fill(1); c.Op == 5 {
					c.Slots[0] = fill(1)
				}
			},
			"no parts": func(c *Control) { c.Slots, c.Hand = [6][]byte{}, nil },
		} {
			q := c
			change(&q)
			refused(what, q)
		}
		if c.Op != 3 {
			c.Cut = 1
			refused("cut", c)
		}
		if c.Cut, c.Member = 0, 0; c.Op == 2 || c.Op == 3 || c.Op == 5 {
			refused("member 0", c)
		}
	}
	if !Formed(Control{Op: 3, Member: 1, Slots: [6][]byte{5: fill(1), 0: {}}, Hand: []byte{}}) {
		t.Error("a cut of 0")
	}
	for _, b := range [][]byte{nil, {0, 0, 0, 0, 0, 0, 0, 0, 0, 0}, {1, 0, 0, 0, 0, 0, 0, 0, 0, 0}} {
		if _, e := Parse(b); e != api.ErrForm {
			t.Error(b, e)
		}
	}
}

func TestSlotsAndMine(t *testing.T) {
	for _, ideal := range []bool{false, true} {
		x := box.New(ideal, api.Hash{})
		members := [6]bool{0: true, 2: true, 5: true}
		l := Slots(x, secret, 3, members, 7, api.Hash{8})
		if ideal && x.Draws() != 3 {
			t.Error(x.Draws())
		}
		c := Control{Slots: l}
		for m := 1; m <= 6; m++ {
			k, e := Mine(x, secret, 3, m, 7, c)
			switch {
			case !members[m-1]:
				if e != api.ErrNone || k != (api.Hash{}) || len(l[m-1]) != 0 {
					t.Error(m, e)
				}
			case e != api.OK || k != api.Hash{8} || len(l[m-1]) != 48:
				t.Error(m, e)
			}
		}
		if k, e := keys.Unslot(x, keys.Pair(secret, 3, 6), 6, 7, l[5]); e != api.OK || k != (api.Hash{8}) {
			t.Error(e)
		}
		for _, m := range []int{0, -1, 7, 1<<63 - 1} {
			if _, e := Mine(x, secret, 3, m, 7, c); e != api.ErrNone {
				t.Error(m, e)
			}
		}
		wrong := func(k api.Hash, e api.Errno) {
			t.Helper()
			if e != api.ErrSeal || k != (api.Hash{}) {
				t.Error(e)
			}
		}
		wrong(Mine(x, secret, 3, 1, 8, c))
		wrong(Mine(x, secret, 2, 1, 7, c))
		wrong(Mine(x, api.Hash{}, 3, 1, 7, c))
		c.Slots[0], c.Slots[1] = []byte{1}, l[0]
		if _, e := Mine(x, secret, 3, 1, 7, c); e != api.ErrForm {
			t.Error(e)
		}
		wrong(Mine(x, secret, 3, 2, 7, c))
	}
	// The members come in their order, as an ideal box's draws tell.
	x, y := box.New(true, api.Hash{}), box.New(true, api.Hash{})
	l := Slots(x, secret, 1, [6]bool{true, true, false, true}, 1, seed)
	for _, m := range []int{1, 2, 4} {
		if !bytes.Equal(l[m-1], keys.Slot(y, keys.Pair(secret, 1, m), m, 1, seed)) {
			t.Error(m)
		}
	}
}

func TestHandAndTaken(t *testing.T) {
	for _, ideal := range []bool{false, true} {
		x := box.New(ideal, api.Hash{})
		c := Control{Op: 5, Member: 4, Hand: Hand(x, secret, 2, 4, seed)}
		if k, e := Taken(x, secret, 2, 4, c); e != api.OK || k != seed || !Formed(c) {
			t.Error(e)
		}
		if k, e := keys.Unslot(x, keys.Pair(secret, 2, 4), 4, 0, c.Hand); e != api.OK || k != seed {
			t.Error("the epoch is 0", e)
		}
		if _, e := Taken(x, secret, 2, 3, c); e != api.ErrSeal {
			t.Error(e)
		}
		if k, e := Taken(x, secret, 2, 4, Control{}); e != api.ErrNone || k != (api.Hash{}) {
			t.Error(e)
		}
		c.Hand = c.Hand[:10]
		if _, e := Taken(x, secret, 2, 4, c); e != api.ErrForm {
			t.Error(e)
		}
	}
}
