package pack_test

import (
	"bytes"
	"math/rand"
	"testing"

	"jalousie/api"
	. "jalousie/pack"
)

func end(t *testing.T, o *Out) []byte {
	t.Helper()
	b, e := o.End()
	if e != api.OK {
		t.Fatal(e)
	}
	return b
}

func TestNumbersAsBytes(t *testing.T) {
	for _, c := range []struct {
		x    uint64
		want []byte
	}{
		{0, []byte{0}}, {1, []byte{1}}, {127, []byte{127}}, {128, []byte{128, 1}}, {300, []byte{172, 2}},
		{16383, []byte{255, 127}}, {16384, []byte{128, 128, 1}},
		{1 << 63, []byte{128, 128, 128, 128, 128, 128, 128, 128, 128, 1}},
		{1<<64 - 1, []byte{255, 255, 255, 255, 255, 255, 255, 255, 255, 1}},
	} {
		var o Out
		o.Num(c.x)
		if b := end(t, &o); !bytes.Equal(b, c.want) {
			t.Error(c.x, b)
		}
		i := Read(c.want)
		if x := i.Num(c.x); x != c.x || !i.Over() {
			t.Error(c.x, x)
		}
		if c.x > 0 {
			i = Read(c.want)
			if x := i.Num(c.x - 1); x != 0 || !i.Bad() || i.Left() != len(c.want) {
				t.Error("above", c.x, x)
			}
		}
	}
}

func TestNumbersThatAreNone(t *testing.T) {
	for _, b := range [][]byte{
		nil, {128}, {128, 128}, {128, 0}, {129, 0}, {255, 128, 0},
		{255, 255, 255, 255, 255, 255, 255, 255, 255, 2},
		{255, 255, 255, 255, 255, 255, 255, 255, 255, 129, 0},
		{255, 255, 255, 255, 255, 255, 255, 255, 255, 128, 1},
		{128, 128, 128, 128, 128, 128, 128, 128, 128, 128, 1},
		bytes.Repeat([]byte{128}, 100),
	} {
		i := Read(b)
		if x := i.Num(1<<64 - 1); x != 0 || !i.Bad() || i.Left() != len(b) || i.Over() {
			t.Error(b, x, i.Left())
		}
		i = Read(b)
		if x := i.Text(api.MaxBytes); len(x) != 0 || !i.Bad() || i.Left() != len(b) {
			t.Error("text", b, x)
		}
	}
}

func TestAllPartsAsBytes(t *testing.T) {
	var o Out
	if b := end(t, &o); len(b) != 0 {
		t.Error(b)
	}
	o.Text([]byte("ab"))
	o.Flag(true)
	o.Raw([]byte{9, 8})
	if b := end(t, &o); !bytes.Equal(b, []byte{2, 'a', 'b', 1, 9, 8}) {
		t.Error(b)
	}
	o.Flag(false)
	o.Text(nil)
	o.Raw(nil)
	b := end(t, &o)
	if !bytes.Equal(b, []byte{2, 'a', 'b', 1, 9, 8, 0, 0}) {
		t.Error(b)
	}
	b[0] = 77
	if end(t, &o)[0] != 2 {
		t.Error("what is answered is new memory")
	}
}

func TestWhatIsPutInIsTakenOut(t *testing.T) {
	r := rand.New(rand.NewSource(1))
	for range 500 {
		var o Out
		var check []func(i *In) bool
		for range r.Intn(20) {
			x, b := r.Uint64()>>r.Intn(64), make([]byte, r.Intn(200))
			r.Read(b)
			switch r.Intn(4) {
			case 0:
				o.Num(x)
				check = append(check, func(i *In) bool { return i.Num(x) == x })
			case 1:
				o.Text(b)
				check = append(check, func(i *In) bool { return bytes.Equal(i.Text(len(b)), b) })
			case 2:
				o.Raw(b)
				check = append(check, func(i *In) bool { return bytes.Equal(i.Raw(len(b)), b) })
			default:
				o.Flag(x%2 == 1)
				check = append(check, func(i *In) bool { return i.Flag() == (x%2 == 1) })
			}
		}
		i := Read(end(t, &o))
		for n, f := range check {
			if !f(i) || i.Bad() {
				t.Fatal(n)
			}
		}
		if !i.Over() {
			t.Fatal("left", i.Left())
		}
	}
}

func TestLongTexts(t *testing.T) {
	var o Out
	o.Text(make([]byte, api.MaxBytes))
	if b, e := o.End(); e != api.OK || len(b) != api.MaxBytes+2 {
		t.Error(e, len(b))
	}
	o.Text(make([]byte, api.MaxBytes+1))
	for range 2 {
		if b, e := o.End(); e != api.ErrLong || len(b) != 0 {
			t.Error(e, len(b))
		}
		o.Num(1)
	}
}

func TestAllTooLong(t *testing.T) {
	var o Out
	o.Raw(make([]byte, 4*api.MaxBytes))
	if b, e := o.End(); e != api.OK || len(b) != 16384 {
		t.Error(e, len(b))
	}
	o.Raw(nil)
	if _, e := o.End(); e != api.OK {
		t.Error(e)
	}
	o.Flag(true)
	if b, e := o.End(); e != api.ErrLong || len(b) != 0 {
		t.Error(e, len(b))
	}
	var long Out
	long.Raw(make([]byte, 4*api.MaxBytes+1))
	if _, e := long.End(); e != api.ErrLong {
		t.Error(e)
	}
	long.Num(1)
	if _, e := long.End(); e != api.ErrLong {
		t.Error(e)
	}
}

func TestTextsThatAreNone(t *testing.T) {
	text := append([]byte{3}, "abc"...)
	for _, c := range []struct {
		b    []byte
		most int
		ok   bool
	}{
		{text, 3, true}, {text, 2, false}, {text, 0, false}, {text, -1, false}, {text, -1 << 63, false}, {text[:3], 3, false},
		{[]byte{0}, 0, true}, {[]byte{0}, -1, false},
		{append([]byte{128, 32}, make([]byte, 4096)...), 1 << 62, true},
		{append([]byte{129, 32}, make([]byte, 4097)...), 1 << 62, false},
		{[]byte{255, 255, 255, 255, 255, 255, 255, 255, 255, 1}, 1<<63 - 1, false},
	} {
		i := Read(c.b)
		b := i.Text(c.most)
		if i.Bad() == c.ok || i.Over() != c.ok {
			t.Error(c.b[:1], c.most, i.Bad())
		}
		if !c.ok && (len(b) > 0 || i.Left() != len(c.b)) {
			t.Error("taken", c.b[:1], c.most)
		}
	}
}

func TestOnceBadNothingIsTaken(t *testing.T) {
	for _, spoil := range []func(i *In){
		func(i *In) { i.Raw(-1) }, func(i *In) { i.Raw(6) }, func(i *In) { i.Num(0) }, func(i *In) { i.Text(0) },
		func(i *In) { i.Raw(1 << 62) }, func(i *In) { i.Raw(-1 << 63) }, func(i *In) { i.Raw(1); i.Flag() },
	} {
		i := Read([]byte{1, 2, 1, 0, 0})
		spoil(i)
		left := i.Left()
		if !i.Bad() || i.Num(9) != 0 || len(i.Text(9)) != 0 || len(i.Raw(1)) != 0 || len(i.Raw(0)) != 0 || i.Flag() {
			t.Error("taken")
		}
		if i.Left() != left || i.Over() || !i.Bad() {
			t.Error(left, i.Left())
		}
	}
	i := Read(nil)
	if i.Flag() || !i.Bad() || i.Left() != 0 || i.Over() {
		t.Error("bad at the end isn't over")
	}
}

func TestMemoryIsNotShared(t *testing.T) {
	b := []byte{2, 'a', 'b', 7, 8}
	i := Read(b)
	b[1] = 'z'
	text, raw := i.Text(2), i.Raw(1)
	_ = append(text, 99)
	_ = append(raw, 99)
	if string(text) != "ab" || raw[0] != 7 || i.Raw(1)[0] != 8 {
		t.Error(text, raw)
	}
	var o Out
	part := []byte{1, 2, 3}
	o.Raw(part[:2])
	part[0] = 9
	o.Num(4)
	if a := end(t, &o); !bytes.Equal(a, []byte{1, 2, 4}) || part[2] != 3 {
		t.Error(a)
	}
}
