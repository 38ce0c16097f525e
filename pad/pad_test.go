package pad_test

import (
	"bytes"
	"testing"

	"jalousie/api"
	. "jalousie/pad"
)

func TestBucket(t *testing.T) {
	for _, c := range []struct {
		n, want int
		e       api.Errno
	}{
		{0, 64, 0}, {63, 64, 0}, {64, 128, 0}, {127, 128, 0}, {128, 256, 0}, {255, 256, 0}, {256, 512, 0}, {511, 512, 0},
		{512, 1024, 0}, {1023, 1024, 0}, {1024, 2048, 0}, {2047, 2048, 0}, {2048, 0, api.ErrLong}, {1<<63 - 1, 0, api.ErrLong},
		{-1, 0, api.ErrArg}, {-1 << 63, 0, api.ErrArg},
	} {
		if b, e := Bucket(c.n); b != c.want || e != c.e {
			t.Error(c.n, b, e)
		}
	}
}

func TestIs(t *testing.T) {
	n := 0
	for i := -5; i < 10000; i++ {
		if Is(i) {
			n++
		}
	}
	if n != 6 || !Is(64) || !Is(128) || !Is(256) || !Is(512) || !Is(1024) || !Is(api.MaxBody) {
		t.Error(n)
	}
}

func TestPaddedAndBack(t *testing.T) {
	for n := range 2048 {
		for _, fill := range []byte{0, 128, 7} {
			text := append(bytes.Repeat([]byte{fill}, n), 1, 2, 3)
			b, e := Pad(text[:n])
			want, _ := Bucket(n)
			if e != api.OK || len(b) != want || !bytes.Equal(b[:n], text[:n]) || b[n] != 128 || text[n] != 1 {
				t.Fatal(n, e)
			}
			if len(bytes.Trim(b[n+1:], "\x00")) != 0 {
				t.Fatal(n)
			}
			if back, e := Unpad(b); e != api.OK || !bytes.Equal(back, text[:n]) {
				t.Fatal(n, e)
			}
		}
	}
	if b, e := Pad(make([]byte, 2048)); e != api.ErrLong || len(b) != 0 {
		t.Error(e)
	}
}

func TestUnpadOfWhatIsNotPadded(t *testing.T) {
	refused := func(what string, b []byte) {
		t.Helper()
		if text, e := Unpad(b); e != api.ErrForm || len(text) != 0 {
			t.Error(what, e)
		}
	}
	refused("none", nil)
	refused("noughts", make([]byte, 64))
	refused("another mark", append(make([]byte, 63), 1))
	refused("no bucket", append([]byte{128}, make([]byte, 62)...))
	refused("no bucket", append([]byte{128}, make([]byte, 64)...))
	refused("a lesser bucket has room", append([]byte{128}, make([]byte, 127)...))
	wide := make([]byte, 128)
	wide[63] = 128
	refused("a lesser bucket has room", wide)
	wide[64] = 128
	if text, e := Unpad(wide); e != api.OK || len(text) != 64 || text[63] != 128 {
		t.Error(e, len(text))
	}
	long := make([]byte, 4096)
	long[3000] = 128
	refused("too long", long)
	long = make([]byte, 4096)
	long[4095] = 128
	refused("too long", long)
	full := make([]byte, 64)
	full[63] = 128
	text, e := Unpad(full)
	if e != api.OK || len(text) != 63 {
		t.Error(e)
	}
	text[0] = 1
	if full[0] != 0 {
		t.Error("what is answered is new memory")
	}
}

func TestBatch(t *testing.T) {
	for n := -3; n < 70000; n++ {
		b := Batch(n)
		switch {
		case n < 1:
			if b != 1 {
				t.Fatal(n, b)
			}
		case n > 65536:
			if b != 65536 {
				t.Fatal(n, b)
			}
		case b&(b-1) != 0 || b < n || b/2 >= n:
			t.Fatal(n, b)
		}
	}
	if Batch(-1<<63) != 1 || Batch(1<<63-1) != 65536 || Batch(65536) != 65536 || Batch(32769) != 65536 {
		t.Error("edges")
	}
}
