// Package varint is layer 1, numbers as bytes: see shared/doc/01-varint.md.
package varint

import (
	"math/bits"

	"courier/api"
)

// longest is how many bytes the 64 bits of a number need, seven in each.
const longest = 10

// Append answers b and the shortest varint of n, in new memory.
func Append(b []byte, n uint64) []byte {
	out := grown(b, Size(n))
	at := len(b)
	for n >= 0x80 {
		out[at] = byte(n) | 0x80
		n >>= 7
		at++
	}
	out[at] = byte(n)
	return out
}

// Take answers the number of the varint at b's beginning, and how many bytes it has.
func Take(b []byte) (uint64, int, api.Errno) {
	var n uint64
	for i := 0; i < len(b) && i < longest; i++ {
		// The tenth byte has room for the number's one last bit alone.
		if i == longest-1 && b[i] > 1 {
			return 0, 0, api.ErrForm
		}
		n |= uint64(b[i]&0x7f) << (7 * i)
		if b[i] < 0x80 {
			return n, i + 1, api.OK
		}
	}
	return 0, 0, api.ErrNone
}

// Size answers how many bytes the shortest varint of n has.
func Size(n uint64) int {
	// Zero has no bits, yet takes a byte: it counts as one bit.
	return (bits.Len64(n|1) + 6) / 7
}

// Zig answers the zigzag number of n.
func Zig(n int64) uint64 {
	// The shift by 63 is all ones for n below zero, so that the bits are flipped.
	return uint64(n)<<1 ^ uint64(n>>63)
}

// Zag answers the integer whose zigzag number is n.
func Zag(n uint64) int64 {
	return int64(n>>1) ^ -int64(n&1)
}

// Append32 answers b and the four bytes of n, the lowest first, in new memory.
func Append32(b []byte, n uint32) []byte {
	return appendFixed(b, uint64(n), 4)
}

// Take32 answers the number of b's first four bytes.
func Take32(b []byte) (uint32, api.Errno) {
	n, err := takeFixed(b, 4)
	return uint32(n), err
}

// Append64 answers b and the eight bytes of n, the lowest first, in new memory.
func Append64(b []byte, n uint64) []byte {
	return appendFixed(b, n, 8)
}

// Take64 answers the number of b's first eight bytes.
func Take64(b []byte) (uint64, api.Errno) {
	return takeFixed(b, 8)
}

func appendFixed(b []byte, n uint64, size int) []byte {
	out := grown(b, size)
	for i := range size {
		out[len(b)+i] = byte(n >> (8 * i))
	}
	return out
}

func takeFixed(b []byte, size int) (uint64, api.Errno) {
	if len(b) < size {
		return 0, api.ErrNone
	}
	var n uint64
	for i := range size {
		n |= uint64(b[i]) << (8 * i)
	}
	return n, api.OK
}

// grown copies b instead of appending to it: append would write into b's spare
// room, which is the caller's.
func grown(b []byte, more int) []byte {
	out := make([]byte, len(b)+more)
	copy(out, b)
	return out
}
