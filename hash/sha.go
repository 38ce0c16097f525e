package hash

import (
	"math/bits"

	"jalousie/api"
)

const blockSize = 64

// start is the state ahead of the first block.
var start = [8]uint32{
	0x6a09e667, 0xbb67ae85, 0x3c6ef372, 0xa54ff53a, 0x510e527f, 0x9b05688c, 0x1f83d9ab, 0x5be0cd19,
}

// rounds are the constants of the 64 rounds.
var rounds = [64]uint32{
	0x428a2f98, 0x71374491, 0xb5c0fbcf, 0xe9b5dba5, 0x3956c25b, 0x59f111f1, 0x923f82a4, 0xab1c5ed5,
	0xd807aa98, 0x12835b01, 0x243185be, 0x550c7dc3, 0x72be5d74, 0x80deb1fe, 0x9bdc06a7, 0xc19bf174,
	0xe49b69c1, 0xefbe4786, 0x0fc19dc6, 0x240ca1cc, 0x2de92c6f, 0x4a7484aa, 0x5cb0a9dc, 0x76f988da,
	0x983e5152, 0xa831c66d, 0xb00327c8, 0xbf597fc7, 0xc6e00bf3, 0xd5a79147, 0x06ca6351, 0x14292967,
	0x27b70a85, 0x2e1b2138, 0x4d2c6dfc, 0x53380d13, 0x650a7354, 0x766a0abb, 0x81c2c92e, 0x92722c85,
	0xa2bfe8a1, 0xa81a664b, 0xc24b8b70, 0xc76c51a3, 0xd192e819, 0xd6990624, 0xf40e3585, 0x106aa070,
	0x19a4c116, 0x1e376c08, 0x2748774c, 0x34b0bcb5, 0x391c0cb3, 0x4ed8aa4a, 0x5b9cca4f, 0x682e6ff3,
	0x748f82ee, 0x78a5636f, 0x84c87814, 0x8cc70208, 0x90befffa, 0xa4506ceb, 0xbef9a3f7, 0xc67178f2,
}

// digest is a sum that is under way: what isn't a whole block yet waits in rest.
type digest struct {
	state [8]uint32
	rest  [blockSize]byte
	held  int
	total uint64
}

func begin() digest {
	return digest{state: start}
}

func (d *digest) write(parts ...[]byte) {
	for _, p := range parts {
		d.part(p)
	}
}

func (d *digest) part(p []byte) {
	d.total += uint64(len(p))
	if d.held > 0 {
		n := copy(d.rest[d.held:], p)
		d.held += n
		p = p[n:]
		if d.held < blockSize {
			return
		}
		d.block(d.rest[:])
	}
	for len(p) >= blockSize {
		d.block(p[:blockSize])
		p = p[blockSize:]
	}
	d.held = copy(d.rest[:], p)
}

// end closes the text by a bit, noughts and its length in bits.
func (d *digest) end() api.Hash {
	length := d.total * 8
	var tail [blockSize + 8]byte
	tail[0] = 128
	noughts := (blockSize + 55 - d.held) % blockSize
	putWord(tail[noughts+1:], uint32(length>>32))
	putWord(tail[noughts+5:], uint32(length))
	d.part(tail[:noughts+9])
	var h api.Hash
	for i, word := range d.state {
		putWord(h[4*i:], word)
	}
	return h
}

func (d *digest) block(p []byte) {
	var w [64]uint32
	for i := range 16 {
		w[i] = word(p[4*i:])
	}
	for i := 16; i < 64; i++ {
		x, y := w[i-15], w[i-2]
		s0 := bits.RotateLeft32(x, -7) ^ bits.RotateLeft32(x, -18) ^ x>>3
		s1 := bits.RotateLeft32(y, -17) ^ bits.RotateLeft32(y, -19) ^ y>>10
		w[i] = w[i-16] + s0 + w[i-7] + s1
	}
	a, b, c, e := d.state[0], d.state[1], d.state[2], d.state[4]
	dd, f, g, h := d.state[3], d.state[5], d.state[6], d.state[7]
	for i := range 64 {
		s1 := bits.RotateLeft32(e, -6) ^ bits.RotateLeft32(e, -11) ^ bits.RotateLeft32(e, -25)
		t1 := h + s1 + (e&f ^ ^e&g) + rounds[i] + w[i]
		s0 := bits.RotateLeft32(a, -2) ^ bits.RotateLeft32(a, -13) ^ bits.RotateLeft32(a, -22)
		t2 := s0 + (a&b ^ a&c ^ b&c)
		h, g, f, e, dd, c, b, a = g, f, e, dd+t1, c, b, a, t1+t2
	}
	d.state[0] += a
	d.state[1] += b
	d.state[2] += c
	d.state[3] += dd
	d.state[4] += e
	d.state[5] += f
	d.state[6] += g
	d.state[7] += h
}

func word(b []byte) uint32 {
	return uint32(b[0])<<24 | uint32(b[1])<<16 | uint32(b[2])<<8 | uint32(b[3])
}

func putWord(b []byte, x uint32) {
	b[0], b[1], b[2], b[3] = byte(x>>24), byte(x>>16), byte(x>>8), byte(x)
}
