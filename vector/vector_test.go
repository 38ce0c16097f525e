package vector_test

import (
	"math/rand"
	"slices"
	"testing"

	"jalousie/api"
	"jalousie/entry"
	. "jalousie/vector"
)

func header(writer int, seq, time uint64, knows ...uint64) entry.Header {
	h := entry.Header{Writer: writer, Seq: seq, Time: time, Size: 80, Tokens: []api.Token{{byte(writer)}}}
	copy(h.Knows[:], knows)
	h.Knows[writer-1] = seq - 1
	if seq > 1 {
		h.Prev[0] = byte(seq)
	}
	return h
}

func TestGreatJoinMeet(t *testing.T) {
	a, b := Vector{1, 2, 3}, Vector{1, 3, 2, 0, 0, 1<<64 - 1}
	if Great(a, b) || Great(b, a) || !Great(a, a) || !Great(a, Vector{}) || !Great(a, Vector{1, 1, 3}) || Great(Vector{}, a) {
		t.Error("great")
	}
	if Join(a, b) != (Vector{1, 3, 3, 0, 0, 1<<64 - 1}) || Meet(a, b) != (Vector{1, 2, 2}) || Join(b, a) != Join(a, b) || Meet(b, a) != Meet(a, b) {
		t.Error("join, meet")
	}
	if a != (Vector{1, 2, 3}) {
		t.Error("changed")
	}
	if Great(Vector{5: 1}, Vector{5: 2}) || !Great(Vector{5: 2}, Vector{5: 1}) {
		t.Error("the last writer")
	}
}

func TestReady(t *testing.T) {
	h := header(2, 3, 1, 4, 0, 5)
	for _, c := range []struct {
		v    Vector
		want bool
	}{
		{Vector{4, 2, 5}, true}, {Vector{9, 2, 9, 9, 9, 9}, true}, {Vector{3, 2, 5}, false}, {Vector{4, 2, 4}, false},
		{Vector{4, 3, 5}, false}, {Vector{4, 1, 5}, false}, {Vector{}, false},
	} {
		if Ready(c.v, h) != c.want {
			t.Error(c.v)
		}
	}
	h.Size = 3
	if Ready(Vector{4, 2, 5}, h) || Ready(Vector{}, entry.Header{}) || Ready(Vector{}, entry.Header{Writer: 1}) {
		t.Error("not formed")
	}
}

func TestTotalAndMissing(t *testing.T) {
	if Total(Vector{}) != 0 || Total(Vector{1, 2, 3, 4, 5, 6}) != 21 || Total(Vector{1<<64 - 1, 1 << 20, 1<<20 + 1, 1}) != 3<<20+1 {
		t.Error("total")
	}
	if Missing(Vector{}, Vector{1, 2}) != 3 || Missing(Vector{5, 1}, Vector{1, 2}) != 1 || Missing(Vector{1, 2}, Vector{}) != 0 {
		t.Error("missing")
	}
	m := uint64(1<<64 - 1)
	if Missing(Vector{}, Vector{m, m, m, m, m, m}) != 6<<40 || Missing(Vector{m - 1}, Vector{m}) != 1 || Missing(Vector{m}, Vector{1}) != 0 {
		t.Error("the greatest numbers")
	}
}

func order(t *testing.T, from Vector, l []entry.Header, behind Vector, want ...int) {
	t.Helper()
	got, v := Order(from, l)
	if v != behind || len(got) != len(want) {
		t.Fatal(v, len(got))
	}
	for i, n := range want {
		if !entry.Same(got[i], l[n]) {
			t.Error(i, got[i])
		}
	}
}

func TestOrder(t *testing.T) {
	order(t, Vector{3}, nil, Vector{3})
	l := []entry.Header{header(1, 2, 5), header(2, 1, 9), header(1, 1, 7), header(3, 1, 7), header(2, 2, 1)}
	order(t, Vector{}, l, Vector{2, 2, 1}, 2, 0, 3, 1, 4)
	order(t, Vector{1}, l, Vector{2, 2, 1}, 0, 3, 1, 4)
	order(t, Vector{5, 0, 0, 0, 0, 7}, l, Vector{5, 2, 1, 0, 0, 7}, 3, 1, 4)
	order(t, Vector{1<<64 - 1, 1<<64 - 1, 1<<64 - 1}, l, Vector{1<<64 - 1, 1<<64 - 1, 1<<64 - 1})
	// What it knows must come first.
	l = []entry.Header{header(1, 1, 1, 0, 2), header(2, 1, 8), header(2, 2, 9), header(3, 1, 0, 1), header(4, 1, 0, 0, 3)}
	order(t, Vector{}, l, Vector{1, 2, 1}, 1, 2, 0, 3)
	// Of several of one number the first of the least time comes, and no other one.
	l = []entry.Header{header(1, 1, 5), header(1, 1, 4), header(1, 1, 4), header(1, 2, 0)}
	l[2].Epoch = 3
	order(t, Vector{}, l, Vector{2}, 1, 3)
	l[1], l[2] = l[2], l[1]
	order(t, Vector{}, l, Vector{2}, 1, 3)
	// What isn't formed doesn't come.
	bad := header(1, 1, 0)
	bad.Size = 0
	order(t, Vector{}, []entry.Header{bad, {}, header(1, 1, 9)}, Vector{1}, 2)
}

func TestOrderHoweverTurned(t *testing.T) {
	r := rand.New(rand.NewSource(2))
	for range 200 {
		var l []entry.Header
		var heads Vector
		for range 30 {
			w := r.Intn(6)
			knows := Meet(heads, Vector{uint64(r.Intn(9)), uint64(r.Intn(9)), uint64(r.Intn(9)), uint64(r.Intn(9)), uint64(r.Intn(9)), uint64(r.Intn(9))})
			heads[w]++
			l = append(l, header(w+1, heads[w], uint64(r.Intn(5)), knows[:]...))
		}
		want, v := Order(Vector{}, l)
		if len(want) != 30 || v != heads {
			t.Fatal(len(want), v)
		}
		seen := Vector{}
		for _, h := range want {
			if !Ready(seen, h) {
				t.Fatal("not a causal order")
			}
			seen[h.Writer-1]++
		}
		r.Shuffle(len(l), func(i, j int) { l[i], l[j] = l[j], l[i] })
		got, v := Order(Vector{}, l)
		if v != heads || !slices.EqualFunc(got, want, entry.Same) {
			t.Fatal("another order")
		}
	}
}

func TestMemoryIsNotShared(t *testing.T) {
	l := []entry.Header{header(2, 1, 1), header(1, 1, 1)}
	got, _ := Order(Vector{}, l)
	got[0].Tokens[0][0] = 99
	if l[0].Writer != 2 || l[1].Tokens[0][0] != 1 {
		t.Error("shared")
	}
}
