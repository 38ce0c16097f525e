package cells

import (
	"bytes"
	"slices"

	"jalousie/api"
)

const half = api.Sector / 2

// head is what a head's sector tells, twice.
type head struct {
	serial, count uint64
	note          [16]byte
}

// place is in which of the two heads the state stands.
func (h head) place() int {
	return int(h.serial % 2)
}

func (h head) sector() []byte {
	b := make([]byte, 0, api.Sector)
	for range 2 {
		b = append(b, eight(h.serial)...)
		b = append(b, eight(h.count)...)
		b = append(b, h.note[:]...)
	}
	return b
}

// parse is the head of a sector, and whether it is one: a sector that is torn has two halves that differ.
func parse(sector []byte) (head, bool) {
	first, second := [half]byte(sector[:half]), [half]byte(sector[half:])
	if first != second {
		return head{}, false
	}
	return head{serial: number(first[:8]), count: number(first[8:16]), note: [16]byte(first[16:])}, true
}

// blank is a sector that tells more bytes than any room has, and so no head, for a place where two halves stand that differ. It can be torn on its way there: then the halves differ, too, as its first byte isn't that of the second half, and its last one not that of the first.
func blank(stands []byte) []byte {
	b := bytes.Repeat([]byte{255}, half)
	b[0], b[half-1] = ^stands[half], ^stands[half-1]
	return slices.Concat(b, b)
}

// eight are a number's eight bytes, the greatest first.
func eight(x uint64) []byte {
	b := make([]byte, 8)
	for i := range b {
		b[i] = byte(x >> (56 - 8*i))
	}
	return b
}

func number(b []byte) uint64 {
	var x uint64
	for _, c := range b {
		x = x<<8 | uint64(c)
	}
	return x
}
