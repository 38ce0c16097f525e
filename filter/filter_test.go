package filter_test

import (
	"slices"
	"strings"
	"testing"

	"jalousie/api"
	"jalousie/box"
	"jalousie/entry"
	. "jalousie/filter"
	"jalousie/item"
	"jalousie/keys"
)

var set = keys.Of(api.Hash{1})

func tags(s string) []string {
	return strings.Fields(s)
}

func TestFormed(t *testing.T) {
	long := strings.Repeat("t", 24)
	for _, f := range []Filter{{}, {All: true}, {All: true, Tags: []string{}}, {Tags: tags("a")}, {Tags: tags("a b c d e f g h")}, {Tags: []string{"a", long}}} {
		if !Formed(f) {
			t.Error(f)
		}
	}
	for _, f := range []Filter{{All: true, Tags: tags("a")}, {Tags: []string{""}}, {Tags: []string{long + "t"}}, {Tags: tags("b a")}, {Tags: tags("a a")}, {Tags: tags("a b c d e f g h i")}} {
		if Formed(f) {
			t.Error(f)
		}
	}
}

func TestFormedWish(t *testing.T) {
	many := make([]api.Token, 9)
	for i := range many {
		many[i][15] = byte(i)
	}
	for _, w := range []Wish{{}, {All: true}, {Tokens: many[:8]}, {Tokens: many[:1]}} {
		if !FormedWish(w) {
			t.Error(w)
		}
	}
	for _, w := range []Wish{{All: true, Tokens: many[:1]}, {Tokens: many}, {Tokens: []api.Token{{2}, {1}}}, {Tokens: []api.Token{{2}, {2}}}} {
		if FormedWish(w) {
			t.Error(w)
		}
	}
}

func TestOf(t *testing.T) {
	x := box.New(true, api.Hash{})
	if w := Of(x, set, Filter{All: true}); !w.All || len(w.Tokens) != 0 {
		t.Error(w)
	}
	for _, f := range []Filter{{}, {All: true, Tags: tags("a")}, {Tags: tags("b a")}} {
		if w := Of(x, set, f); w.All || len(w.Tokens) != 0 || x.Draws() != 0 {
			t.Error(f, w)
		}
	}
	f := Filter{Tags: tags("a b c")}
	w := Of(x, set, f)
	if w.All || !FormedWish(w) || x.Draws() != 3 || !slices.Equal(w.Tokens, keys.Tokens(x, set, f.Tags)) {
		t.Error(w)
	}
}

func TestMeets(t *testing.T) {
	h := entry.Header{Tokens: []api.Token{{2}, {4}}}
	for _, c := range []struct {
		w    Wish
		want bool
	}{{Wish{All: true}, true}, {Wish{}, false}, {Wish{Tokens: []api.Token{{1}, {4}}}, true}, {Wish{Tokens: []api.Token{{1}, {3}}}, false}} {
		if Meets(c.w, h) != c.want {
			t.Error(c)
		}
	}
	if !Meets(Wish{}, entry.Header{Control: true}) || Meets(Wish{Tokens: []api.Token{{1}}}, entry.Header{}) || !Meets(Wish{All: true}, entry.Header{}) {
		t.Error("control, none")
	}
}

func TestShows(t *testing.T) {
	i := item.Item{Known: true, Alive: true, Tags: tags("b c")}
	for _, c := range []struct {
		f    Filter
		want bool
	}{{Filter{All: true}, true}, {Filter{}, false}, {Filter{Tags: tags("a c")}, true}, {Filter{Tags: tags("b")}, true}, {Filter{Tags: tags("a d")}, false}} {
		if Shows(c.f, i) != c.want {
			t.Error(c)
		}
	}
	i.Tags = nil
	if !Shows(Filter{All: true}, i) || Shows(Filter{Tags: tags("a")}, i) {
		t.Error("no tags")
	}
	i.Alive = false
	if Shows(Filter{All: true}, i) {
		t.Error("not alive")
	}
	i.Alive, i.Known = true, false
	if Shows(Filter{All: true}, i) {
		t.Error("the newest isn't known")
	}
}

// row is of an entry whose tokens are one byte each; known if it has an op.
func row(writer int, seq uint64, item1 byte, op int, names string) item.Row {
	h := entry.Header{Writer: writer, Seq: seq, Time: seq, Item: api.Token{item1}, Size: 80}
	h.Knows[writer-1] = seq - 1
	for _, name := range tags(names) {
		h.Tokens = append(h.Tokens, api.Token{name[0]})
	}
	if op == 0 {
		return item.Row{Header: h}
	}
	return item.Row{Header: h, Known: true, Change: entry.Change{Op: op, Name: "n", Tags: tags(names)}}
}

func TestShown(t *testing.T) {
	l := []item.Row{row(1, 1, 9, 1, "a b"), row(1, 2, 8, 1, "c"), row(2, 1, 7, 1, ""), row(3, 1, 6, 1, "a"), row(3, 2, 6, 2, ""), row(4, 1, 5, 1, "a"), row(4, 2, 5, 0, "z")}
	for _, c := range []struct {
		f    Filter
		want []byte
	}{
		{Filter{All: true}, []byte{7, 8, 9}}, {Filter{}, nil}, {Filter{Tags: tags("a")}, []byte{9}}, {Filter{Tags: tags("b c")}, []byte{8, 9}}, {Filter{Tags: tags("z")}, nil},
	} {
		var got []byte
		for _, i := range Shown(c.f, l) {
			got = append(got, i.Token[0])
		}
		if !slices.Equal(got, c.want) {
			t.Error(c.f, got)
		}
	}
}

func TestPending(t *testing.T) {
	other := row(2, 1, 9, 0, "a")
	other.Header.Time = 77
	bad := row(1, 1, 9, 0, "a")
	bad.Header.Size = 0
	control := row(5, 1, 0, 0, "")
	control.Header.Control = true
	known := row(3, 5, 1, 1, "a")
	l := []item.Row{bad, control, row(3, 2, 1, 0, "b"), row(2, 1, 1, 0, "a"), other, row(3, 1, 1, 0, "a c"), row(1, 7, 1, 0, ""), known, row(3, 5, 1, 0, "a")}
	for _, c := range []struct {
		w    Wish
		want []int
	}{
		{Wish{All: true}, []int{6, 3, 5, 2, 8}}, {Wish{}, nil}, {Wish{Tokens: []api.Token{{'a'}}}, []int{3, 5, 8}}, {Wish{Tokens: []api.Token{{'b'}, {'c'}}}, []int{5, 2}},
	} {
		got := Pending(c.w, l)
		if len(got) != len(c.want) {
			t.Error(c.w, got)
			continue
		}
		for i, n := range c.want {
			if !entry.Same(got[i], l[n].Header) {
				t.Error(c.w, i, got[i])
			}
		}
	}
	// Of two of one number the first that is pending comes.
	one := Pending(Wish{Tokens: []api.Token{{'b'}}}, []item.Row{row(2, 1, 1, 0, "a"), row(2, 1, 2, 0, "b")})
	if len(one) != 1 || one[0].Item != (api.Token{2}) {
		t.Error(one)
	}
	one[0].Tokens[0][0] = 1
	got := Pending(Wish{All: true}, l)
	got[1].Tokens[0][0] = 99
	if l[3].Header.Tokens[0] != (api.Token{'a'}) {
		t.Error("shared")
	}
}

func TestWider(t *testing.T) {
	all, none := Filter{All: true}, Filter{}
	for _, c := range []struct {
		a, b Filter
		want bool
	}{
		{all, all, true}, {all, none, true}, {none, all, false}, {none, none, true}, {all, Filter{Tags: tags("a")}, true}, {Filter{Tags: tags("a")}, all, false},
		{Filter{Tags: tags("a")}, none, true}, {none, Filter{Tags: tags("a")}, false}, {Filter{Tags: tags("a b c")}, Filter{Tags: tags("a c")}, true},
		{Filter{Tags: tags("a c")}, Filter{Tags: tags("a b c")}, false}, {Filter{Tags: tags("a b")}, Filter{Tags: tags("b c")}, false},
	} {
		if Wider(c.a, c.b) != c.want {
			t.Error(c)
		}
	}
	// A wider filter shows all that the other one shows.
	l := []item.Row{row(1, 1, 9, 1, "a b"), row(1, 2, 8, 1, "c"), row(2, 1, 7, 1, "")}
	filters := []Filter{all, none, {Tags: tags("a")}, {Tags: tags("a c")}, {Tags: tags("c")}, {Tags: tags("a b c")}}
	for _, a := range filters {
		for _, b := range filters {
			for _, i := range Shown(b, l) {
				if Wider(a, b) && !slices.ContainsFunc(Shown(a, l), func(j item.Item) bool { return item.Same(i, j) }) {
					t.Error(a, b)
				}
			}
		}
	}
}
