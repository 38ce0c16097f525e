package net_test

import (
	"bytes"
	"slices"
	"testing"

	"jalousie/api"
	. "jalousie/net"
)

func letter(i int) Letter {
	return Letter{From: i, To: -i, Bytes: []byte{byte(i), 7}}
}

func same(a, b Letter) bool {
	return a.From == b.From && a.To == b.To && bytes.Equal(a.Bytes, b.Bytes)
}

func filled(n int) *Net {
	w := New()
	for i := range n {
		w.Send(letter(i))
	}
	return w
}

func has(t *testing.T, n *Net, want ...int) {
	t.Helper()
	var l []Letter
	for _, i := range want {
		l = append(l, letter(i))
	}
	if !slices.EqualFunc(n.Way(), l, same) || n.Count() != len(want) {
		t.Error(n.Way(), want)
	}
}

func TestNew(t *testing.T) {
	n := New()
	has(t, n)
	for _, i := range []int{0, 1, -1, 1<<63 - 1} {
		if l, is := n.At(i); is || !same(l, Letter{}) {
			t.Error(i)
		}
		if l, is := n.Take(i); is || !same(l, Letter{}) {
			t.Error(i)
		}
		if n.Double(i) || n.Turn(i, nil) {
			t.Error(i)
		}
	}
}

func TestSend(t *testing.T) {
	n := filled(3)
	has(t, n, 0, 1, 2)
	if !n.Send(Letter{Bytes: make([]byte, 16384)}) || n.Send(Letter{Bytes: make([]byte, 16385)}) || n.Count() != 4 {
		t.Error("long")
	}
	n = filled(api.MaxWay)
	if n.Count() != 200 || n.Send(letter(1)) || n.Double(0) || n.Count() != 200 {
		t.Error("full")
	}
	n.Take(0)
	if !n.Double(5) || n.Send(letter(1)) || n.Count() != 200 {
		t.Error("room for one")
	}
	if l, _ := n.At(199); !same(l, letter(6)) {
		t.Error(l)
	}
}

func TestAt(t *testing.T) {
	n := filled(3)
	for i, want := range map[int]int{0: 0, 1: 1, 2: 2, 3: 0, 5: 2, -1: 0, -2: 0, -1 << 63: 0, 1<<63 - 1: (1<<63 - 1) % 3} {
		if l, is := n.At(i); !is || !same(l, letter(want)) {
			t.Error(i, l)
		}
	}
	has(t, n, 0, 1, 2)
}

func TestTake(t *testing.T) {
	n := filled(5)
	for _, c := range []struct {
		i, want int
		left    []int
	}{{1, 1, []int{0, 2, 3, 4}}, {7, 4, []int{0, 2, 3}}, {-5, 0, []int{2, 3}}, {1, 3, []int{2}}, {1 << 40, 2, nil}} {
		if l, is := n.Take(c.i); !is || !same(l, letter(c.want)) {
			t.Error(c, l)
		}
		has(t, n, c.left...)
	}
	if _, is := n.Take(0); is {
		t.Error("none")
	}
	n = filled(2)
	n.Double(0)
	if l, is := n.Take(2); !is || !same(l, letter(0)) {
		t.Error(l)
	}
}

func TestTurn(t *testing.T) {
	n := filled(3)
	b := []byte("new")
	if !n.Turn(4, b) || n.Turn(1, make([]byte, 16385)) {
		t.Error("turn")
	}
	b[0] = 'z'
	if l, _ := n.At(1); l.From != 1 || l.To != -1 || string(l.Bytes) != "new" {
		t.Error(l)
	}
	if l, _ := n.At(0); !same(l, letter(0)) {
		t.Error(l)
	}
	if !n.Turn(-1, nil) || !n.Turn(2, make([]byte, 16384)) {
		t.Error("turn")
	}
	if l, _ := n.At(0); len(l.Bytes) != 0 {
		t.Error(l)
	}
	n = filled(1)
	n.Double(0)
	n.Turn(1, nil)
	if l, _ := n.At(0); !same(l, letter(0)) {
		t.Error("a letter that was doubled is one of its own", l)
	}
}

func TestMemoryIsNotShared(t *testing.T) {
	n := New()
	b := []byte{1, 2}
	n.Send(Letter{Bytes: b})
	b[0] = 9
	n.Way()[0].Bytes[0] = 9
	l, _ := n.At(0)
	l.Bytes[0] = 9
	if l, _ := n.Take(0); l.Bytes[0] != 1 {
		t.Error("shared")
	}
}
