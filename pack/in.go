package pack

import (
	"bytes"

	"jalousie/api"
)

// In is a text that is taken apart: left is what wasn't taken yet.
type In struct {
	left []byte
	bad  bool
}

// Read is b, at its beginning.
func Read(b []byte) *In {
	return &In{left: bytes.Clone(b)}
}

// Num takes a number that is at most most.
func (i *In) Num(most uint64) uint64 {
	x, size, ok := number(i.left)
	if i.bad || !ok || x > most {
		i.bad = true
		return 0
	}
	i.left = i.left[size:]
	return x
}

// Text takes a text of at most most bytes.
func (i *In) Text(most int) []byte {
	x, size, ok := number(i.left)
	most = min(most, api.MaxBytes, len(i.left)-size)
	if i.bad || !ok || most < 0 || x > uint64(most) {
		i.bad = true
		return nil
	}
	i.left = i.left[size:]
	return i.cut(int(x))
}

// Raw takes n bytes.
func (i *In) Raw(n int) []byte {
	if i.bad || n < 0 || n > len(i.left) {
		i.bad = true
		return nil
	}
	return i.cut(n)
}

// Flag takes a byte that is 1 or 0.
func (i *In) Flag() bool {
	if i.bad || len(i.left) == 0 || i.left[0] > 1 {
		i.bad = true
		return false
	}
	return i.cut(1)[0] == 1
}

// Bad tells whether something didn't stand there as it was asked for.
func (i *In) Bad() bool {
	return i.bad
}

// Left is how many bytes are left.
func (i *In) Left() int {
	return len(i.left)
}

// Over tells whether all was taken, and nothing was bad.
func (i *In) Over() bool {
	return len(i.left) == 0 && !i.bad
}

func (i *In) cut(n int) []byte {
	b := bytes.Clone(i.left[:n])
	i.left = i.left[n:]
	return b
}

// number is the number at b's beginning, and how many bytes it has: only as Num puts it, so that each has one form.
func number(b []byte) (uint64, int, bool) {
	var x uint64
	for at, c := range b {
		if at == 9 && c > 1 {
			break
		}
		x |= uint64(c&127) << (7 * at)
		if c < 128 {
			return x, at + 1, c > 0 || at == 0
		}
	}
	return 0, 0, false
}
