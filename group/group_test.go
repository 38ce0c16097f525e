package group_test

import (
	"bytes"
	"testing"

	"jalousie/api"
	"jalousie/control"
	"jalousie/entry"
	. "jalousie/group"
)

// some is a group of the owner 2 with the members 1 to 3; 4 is gone.
func some() Group {
	return Group{
		Owner: 2, Epoch: 5, Members: [6]bool{true, true, true}, Gone: [6]bool{3: true}, Cut: [6]uint64{3: 7}, Seen: 6,
	}
}

func TestMay(t *testing.T) {
	for _, c := range []struct {
		g                  Group
		writer, op, member int
		want               api.Errno
	}{
		{Group{}, 0, 1, 0, api.ErrArg}, {Group{}, 7, 1, 0, api.ErrArg}, {Group{}, -1 << 63, 1, 0, api.ErrArg},
		{some(), 2, 0, 0, api.ErrArg}, {some(), 2, 6, 1, api.ErrArg}, {some(), 2, -1, 0, api.ErrArg},
		{some(), 2, 1, 1, api.ErrArg}, {some(), 2, 4, 1, api.ErrArg}, {some(), 2, 2, 0, api.ErrArg}, {some(), 2, 2, 7, api.ErrArg},
		{some(), 2, 3, 0, api.ErrArg}, {some(), 2, 5, 7, api.ErrArg}, {some(), 1, 5, -1, api.ErrArg}, {some(), 2, 1, -1, api.ErrArg},
		{Group{}, 6, 1, 0, api.OK}, {some(), 2, 1, 0, api.ErrState}, {some(), 1, 1, 0, api.ErrState},
		{Group{}, 1, 2, 3, api.ErrState}, {Group{}, 1, 4, 0, api.ErrState}, {some(), 1, 4, 0, api.ErrState}, {some(), 2, 4, 0, api.OK},
		{some(), 2, 2, 5, api.OK}, {some(), 1, 2, 5, api.ErrState}, {some(), 2, 2, 1, api.ErrState}, {some(), 2, 2, 2, api.ErrState}, {some(), 2, 2, 4, api.ErrState},
		{some(), 2, 3, 1, api.OK}, {some(), 3, 3, 1, api.ErrState}, {some(), 2, 3, 2, api.ErrState}, {some(), 2, 3, 4, api.ErrState}, {some(), 2, 3, 5, api.ErrState},
		{some(), 2, 5, 1, api.OK}, {some(), 1, 5, 3, api.ErrState}, {some(), 2, 5, 2, api.ErrState}, {some(), 2, 5, 4, api.ErrState}, {some(), 2, 5, 6, api.ErrState},
	} {
		if e := May(c.g, c.writer, c.op, c.member); e != c.want {
			t.Error(c.writer, c.op, c.member, e)
		}
	}
	last := some()
	last.Epoch = 255
	for op, want := range map[int]api.Errno{2: api.ErrSpent, 3: api.ErrSpent, 4: api.ErrSpent, 5: api.OK} {
		member := map[int]int{2: 6, 3: 1, 5: 1}[op]
		if e := May(last, 2, op, member); e != want {
			t.Error(op, e)
		}
		if e := May(last, 1, op, member); e != api.ErrState {
			t.Error(op, e)
		}
	}
	if e := May(Group{Epoch: 255}, 1, 1, 0); e != api.ErrSpent {
		t.Error(e)
	}
	if e := May(Group{Epoch: 254}, 1, 1, 0); e != api.OK {
		t.Error(e)
	}
}

func TestBehind(t *testing.T) {
	for i, c := range []struct {
		writer, op, member int
		cut                uint64
		change             func(g *Group)
	}{
		{3, 1, 0, 9, func(g *Group) { g.Owner, g.Epoch = 3, 6 }},
		{6, 1, 0, 0, func(g *Group) { g.Owner, g.Epoch, g.Members[5] = 6, 6, true }},
		{2, 2, 6, 9, func(g *Group) { g.Epoch, g.Members[5] = 6, true }},
		{2, 2, 4, 9, func(g *Group) { g.Epoch, g.Members[3] = 6, true }},
		{2, 3, 1, 9, func(g *Group) { g.Epoch, g.Members[0], g.Gone[0], g.Cut[0] = 6, false, true, 9 }},
		{2, 3, 4, 11, func(g *Group) { g.Epoch, g.Cut[3] = 6, 11 }},
		{5, 4, 0, 3, func(g *Group) { g.Epoch = 6 }},
		{2, 5, 1, 3, func(g *Group) { g.Owner = 1 }},
		{2, 5, 6, 3, func(g *Group) { g.Owner = 6 }},
	} {
		want := some()
		c.change(&want)
		want.Seen++
		if g := Behind(some(), c.writer, c.op, c.member, c.cut); g != want {
			t.Error(i, g, want)
		}
	}
	for _, c := range [][3]int{{0, 1, 0}, {7, 1, 0}, {2, 0, 0}, {2, 6, 0}, {2, 1, 1}, {2, 2, 0}, {2, 3, 7}, {2, 5, -1}} {
		if g := Behind(some(), c[0], c[1], c[2], 1); g != some() {
			t.Error(c, g)
		}
	}
}

// said is a header of a writer, and a control with slots for some members.
func said(writer, op, member int, cut uint64, slots ...int) (entry.Header, control.Control) {
	c := control.Control{Op: op, Member: member, Cut: cut}
	for _, m := range slots {
		c.Slots[m-1] = bytes.Repeat([]byte{1}, 48)
	}
	if op == 5 {
		c.Hand = bytes.Repeat([]byte{1}, 48)
	}
	return entry.Header{Writer: writer, Seq: 1, Control: true, Size: 80}, c
}

func TestApply(t *testing.T) {
	applies := func(h entry.Header, c control.Control) {
		t.Helper()
		want := Behind(some(), h.Writer, c.Op, c.Member, c.Cut)
		if g, e := Apply(some(), h, c); e != api.OK || g != want {
			t.Error(e, g)
		}
	}
	applies(said(2, 2, 5, 0, 1, 2, 3, 5))
	applies(said(2, 3, 1, 8, 2, 3))
	applies(said(2, 4, 0, 0, 1, 2, 3))
	applies(said(2, 5, 3, 0))
	refused := func(want api.Errno, h entry.Header, c control.Control) {
		t.Helper()
		if g, e := Apply(some(), h, c); e != want || g != (Group{}) {
			t.Error(e, g)
		}
	}
	h, c := said(2, 4, 0, 0, 1, 2, 3)
	bad := h
	bad.Size = 0
	refused(api.ErrArg, bad, c)
	bad = h
	bad.Control = false
	refused(api.ErrArg, bad, c)
	refused(api.ErrArg, h, control.Control{})
	h, c = said(1, 4, 0, 0, 1)
	refused(api.ErrState, h, c)
	h, c = said(2, 2, 4, 0, 1, 2, 3, 4)
	refused(api.ErrState, h, c)
	for _, slots := range [][]int{{1, 2}, {1, 2, 3, 4}, {1, 2, 4}, {6}} {
		h, c = said(2, 4, 0, 0, slots...)
		refused(api.ErrForm, h, c)
	}
	h, c = said(2, 3, 1, 8, 1, 2, 3)
	refused(api.ErrForm, h, c)
	h, c = said(2, 2, 5, 0, 1, 2, 3)
	refused(api.ErrForm, h, c)
}

func TestFold(t *testing.T) {
	var l []entry.Header
	var cs []control.Control
	say := func(h entry.Header, c control.Control) {
		l, cs = append(l, h), append(cs, c)
	}
	say(said(2, 1, 0, 0, 2))
	say(said(2, 2, 1, 0, 1, 2))
	say(said(2, 5, 1, 0))
	say(said(1, 3, 2, 4, 1))
	g, n := Fold(l, cs)
	if n != 4 || g != (Group{Owner: 1, Epoch: 3, Members: [6]bool{true}, Gone: [6]bool{1: true}, Cut: [6]uint64{1: 4}, Seen: 4}) {
		t.Error(n, g)
	}
	if one, n := Fold(l[:1], cs); n != 1 || one != (Group{Owner: 2, Epoch: 1, Members: [6]bool{1: true}, Seen: 1}) {
		t.Error(n, one)
	}
	if two, n := Fold(l, cs[:2]); n != 2 || two.Epoch != 2 {
		t.Error(n, two)
	}
	if none, n := Fold(nil, cs); n != 0 || none != (Group{}) {
		t.Error(n)
	}
	if none, n := Fold(l[1:], cs[1:]); n != 0 || none != (Group{}) {
		t.Error(n, none)
	}
	say(said(2, 4, 0, 0, 1))
	say(said(1, 4, 0, 0, 1))
	if again, n := Fold(l, cs); n != 4 || again != g {
		t.Error("it ends at the first that may not", n)
	}
}

func TestCountsAndIs(t *testing.T) {
	g := some()
	for _, c := range []struct {
		writer int
		seq    uint64
		counts bool
	}{{1, 1, true}, {1, 1<<64 - 1, true}, {4, 7, true}, {4, 8, false}, {4, 0, true}, {5, 1, false}, {5, 0, false}, {0, 1, false}, {7, 1, false}, {-1, 1, false}} {
		if Counts(g, c.writer, c.seq) != c.counts {
			t.Error(c)
		}
	}
	g.Members[3] = true
	if !Counts(g, 4, 8) {
		t.Error("a member that was gone")
	}
	for writer, want := range map[int]bool{-1: false, 0: false, 1: true, 3: true, 5: false, 6: false, 7: false, 1 << 40: false} {
		if Is(g, writer) != want {
			t.Error(writer)
		}
	}
}
