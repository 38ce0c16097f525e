package item_test

import (
	"math/rand"
	"slices"
	"testing"

	"jalousie/api"
	"jalousie/entry"
	. "jalousie/item"
)

func header(writer int, seq, time uint64, item byte) entry.Header {
	h := entry.Header{Writer: writer, Seq: seq, Time: time, Item: api.Token{item}, Tokens: []api.Token{{1}}, Size: 80}
	h.Knows[writer-1] = seq - 1
	return h
}

func row(writer int, seq, time uint64, item byte, c entry.Change) Row {
	return Row{Header: header(writer, seq, time, item), Known: true, Change: c}
}

func stub(writer int, seq, time uint64, item byte) Row {
	return Row{Header: header(writer, seq, time, item)}
}

func put1(name, value string, tags ...string) entry.Change {
	return entry.Change{Op: 1, Name: name, Tags: tags, Value: value}
}

func is(t *testing.T, l []Row, want ...Item) {
	t.Helper()
	got := Fold(l)
	if !slices.EqualFunc(got, want, Same) {
		t.Errorf("%+v\nwant %+v", got, want)
	}
	for _, i := range want {
		if one, is := Of(l, i.Token); !is || !Same(one, i) {
			t.Errorf("%+v", one)
		}
	}
	if one, is := Of(l, api.Token{250}); is || !Same(one, Item{}) {
		t.Error("there is none")
	}
}

func TestLater(t *testing.T) {
	l := []entry.Header{header(1, 1, 1, 0), header(1, 2, 1, 0), header(2, 1, 1, 0), header(3, 1, 1, 0), header(1, 1, 2, 0), header(1, 9, 1<<40, 0)}
	for i, a := range l {
		for j, b := range l {
			if Later(a, b) != (i > j) {
				t.Error(i, j)
			}
		}
	}
}

func TestFormed(t *testing.T) {
	good := row(1, 1, 1, 1, put1("n", "v"))
	if !Formed(good) || !Formed(stub(1, 1, 1, 1)) {
		t.Error("formed")
	}
	for i, change := range []func(r *Row){
		func(r *Row) { r.Header.Size = 1 }, func(r *Row) { r.Header = entry.Header{} }, func(r *Row) { r.Known = false },
		func(r *Row) { r.Header.Control, r.Header.Item, r.Header.Tokens = true, api.Token{}, nil },
		func(r *Row) { r.Change = entry.Change{} }, func(r *Row) { r.Change.Op = 2 },
		func(r *Row) { r.Known, r.Change = false, entry.Change{Op: 1} }, func(r *Row) { r.Known, r.Change = false, entry.Change{Name: "n"} },
		func(r *Row) { r.Known, r.Change = false, entry.Change{Tags: []string{""}} }, func(r *Row) { r.Known, r.Change = false, entry.Change{Value: "n"} },
	} {
		r := good
		change(&r)
		if Formed(r) {
			t.Error(i)
		}
		is(t, []Row{r})
	}
}

func TestAnItemsLife(t *testing.T) {
	first := row(1, 1, 1, 5, put1("n", "old", "a", "b"))
	gone := row(1, 2, 2, 5, entry.Change{Op: 2, Name: "n"})
	again := row(1, 3, 3, 5, put1("n", "new", "c"))
	token := api.Token{5}
	is(t, nil)
	is(t, []Row{first}, Item{token, first.Header, true, true, "n", []string{"a", "b"}, "old"})
	is(t, []Row{gone, first}, Item{token, gone.Header, true, false, "n", nil, ""})
	is(t, []Row{again, gone, first}, Item{token, again.Header, true, true, "n", []string{"c"}, "new"})
	// Tags anew: those are the tags, the value stays.
	tags := row(2, 1, 2, 5, entry.Change{Op: 3, Name: "m", Tags: []string{"x"}})
	is(t, []Row{first, tags}, Item{token, tags.Header, true, true, "m", []string{"x"}, "old"})
	is(t, []Row{first, tags, gone}, Item{token, tags.Header, true, false, "m", nil, ""})
	is(t, []Row{tags}, Item{token, tags.Header, true, false, "m", nil, ""})
	is(t, []Row{first, gone, again, tags}, Item{token, again.Header, true, true, "n", []string{"c"}, "new"})
	// What isn't known counts for the newest alone.
	is(t, []Row{first, stub(3, 1, 9, 5)}, Item{token, header(3, 1, 9, 5), false, true, "n", []string{"a", "b"}, "old"})
	is(t, []Row{first, stub(3, 1, 0, 5)}, Item{token, first.Header, true, true, "n", []string{"a", "b"}, "old"})
	is(t, []Row{stub(3, 1, 9, 5)}, Item{Token: token, Newest: header(3, 1, 9, 5)})
}

func TestFoldOfSeveral(t *testing.T) {
	a, b, c := row(1, 1, 1, 9, put1("n", "1")), row(1, 2, 2, 3, put1("m", "2")), stub(2, 1, 3, 200)
	is(t, []Row{a, b, c},
		Item{api.Token{3}, b.Header, true, true, "m", nil, "2"},
		Item{api.Token{9}, a.Header, true, true, "n", nil, "1"},
		Item{Token: api.Token{200}, Newest: c.Header})
	// Of one writer and number the first that is formed counts, whatever its token is.
	twice := row(1, 1, 7, 4, put1("z", "z"))
	is(t, []Row{a, twice}, Item{api.Token{9}, a.Header, true, true, "n", nil, "1"})
	is(t, []Row{twice, a}, Item{api.Token{4}, twice.Header, true, true, "z", nil, "z"})
	bad := twice
	bad.Change.Op = 9
	is(t, []Row{bad, a}, Item{api.Token{9}, a.Header, true, true, "n", nil, "1"})
}

func TestFoldHoweverTurned(t *testing.T) {
	r := rand.New(rand.NewSource(3))
	for range 100 {
		var l []Row
		for i := range 40 {
			time, item := uint64(r.Intn(10)), byte(r.Intn(4))
			switch r.Intn(4) {
			case 0:
				l = append(l, stub(i%6+1, uint64(i/6+1), time, item))
			case 1:
				l = append(l, row(i%6+1, uint64(i/6+1), time, item, entry.Change{Op: 2, Name: "n"}))
			case 2:
				l = append(l, row(i%6+1, uint64(i/6+1), time, item, entry.Change{Op: 3, Name: "n", Tags: []string{string(rune('a' + i))}}))
			default:
				l = append(l, row(i%6+1, uint64(i/6+1), time, item, put1("n", string(rune('a'+i)))))
			}
		}
		want := Fold(l)
		r.Shuffle(len(l), func(i, j int) { l[i], l[j] = l[j], l[i] })
		if !slices.EqualFunc(Fold(l), want, Same) {
			t.Fatal("other items")
		}
	}
}

func TestSame(t *testing.T) {
	make := func() Item {
		return Item{api.Token{1}, header(1, 1, 1, 1), true, true, "n", []string{"a"}, "v"}
	}
	if !Same(make(), make()) || !Same(Item{}, Item{Tags: []string{}}) {
		t.Error("same")
	}
	for i, change := range []func(i *Item){
		func(i *Item) { i.Token[15] = 1 }, func(i *Item) { i.Newest.Time++ }, func(i *Item) { i.Known = false }, func(i *Item) { i.Alive = false },
		func(i *Item) { i.Name = "m" }, func(i *Item) { i.Tags = nil }, func(i *Item) { i.Tags[0] = "b" }, func(i *Item) { i.Value = "w" },
	} {
		other := make()
		change(&other)
		if Same(other, make()) || Same(make(), other) {
			t.Error(i)
		}
	}
}

func TestMemoryIsNotShared(t *testing.T) {
	l := []Row{row(1, 1, 1, 1, put1("n", "v", "a")), stub(1, 2, 0, 1), row(2, 1, 0, 1, entry.Change{Op: 3, Name: "n"})}
	i := Fold(l)[0]
	i.Tags[0], i.Newest.Tokens[0] = "z", api.Token{77}
	if l[0].Change.Tags[0] != "a" || l[0].Header.Tokens[0] != (api.Token{1}) || l[1].Header.Seq != 2 || l[2].Header.Writer != 2 {
		t.Error("shared")
	}
}
