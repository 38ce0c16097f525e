// Package hash is layer 1: SHA-256, and what comes of keys by it (HMAC, HKDF).
package hash

import (
	"jalousie/api"
)

// maxExpand is how many bytes HKDF gives at most: 255 blocks.
const maxExpand = 255 * 32

// Sum is SHA-256 of all parts, joined.
func Sum(parts ...[]byte) api.Hash {
	d := begin()
	d.write(parts...)
	return d.end()
}

// Mac is HMAC of the parts, joined, by a key of any length.
func Mac(key []byte, parts ...[]byte) api.Hash {
	var inner, outer [blockSize]byte
	if len(key) > blockSize {
		short := Sum(key)
		key = short[:]
	}
	copy(inner[:], key)
	copy(outer[:], key)
	for i := range blockSize {
		inner[i] ^= 0x36
		outer[i] ^= 0x5c
	}
	d := begin()
	d.write(inner[:])
	d.write(parts...)
	text := d.end()
	return Sum(outer[:], text[:])
}

// Extract is HKDF's first step: a key of a salt and a secret.
func Extract(salt, secret []byte) api.Hash {
	return Mac(salt, secret)
}

// Expand is HKDF's second step: n bytes of a key and an info.
func Expand(key api.Hash, info []byte, n int) ([]byte, api.Errno) {
	if n < 0 || n > maxExpand {
		return nil, api.ErrArg
	}
	out := make([]byte, 0, n+32)
	var last []byte
	for i := byte(1); len(out) < n; i++ {
		block := Mac(key[:], last, info, []byte{i})
		out = append(out, block[:]...)
		last = block[:]
	}
	return out[:n:n], api.OK
}

// Derive is the key that comes of another one by a label.
func Derive(key api.Hash, label string) api.Hash {
	return Mac(key[:], []byte(label), []byte{1})
}
