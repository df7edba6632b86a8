// Package varint is layer 1: numbers in few bytes: see shared/doc/01-varint.md.
package varint

import (
	"math/bits"

	"coracle/api"
)

const (
	group = 7          // bits of a number that a byte carries
	more  = 1 << group // stands in each byte but the last one
	most  = 10         // bytes that the greatest number has
	top   = 1          // the greatest last byte of that many: 64 bits are nine groups and one bit
)

// Size is how many bytes Put lays down for n.
func Size(n uint64) int {
	// 0 has a byte too, as a number of one bit has.
	return (bits.Len64(n|1) + group - 1) / group
}

// Put lays n down, the lowest group of bits first.
func Put(n uint64) []byte {
	size := Size(n)
	b := make([]byte, 0, size)
	for range size - 1 {
		b = append(b, byte(n)|more)
		n >>= group
	}
	return append(b, byte(n))
}

// Take tells the number with whose Put b begins, and how many bytes that has.
func Take(b []byte) (uint64, int, api.Errno) {
	var n uint64
groups:
	for i := range most {
		if i == len(b) {
			// Whatever groups there were, a last byte of 1 would end them.
			return 0, 0, api.ErrShort
		}
		c := b[i]
		n |= uint64(c%more) << (group * i)
		switch {
		case i == most-1 && c > top:
			break groups // beyond 64 bits
		case i > 0 && c == 0:
			break groups // the bytes ahead would have done
		case c < more:
			return n, i + 1, api.OK
		}
	}
	return 0, 0, api.ErrCorrupt
}

// Zig is a number that is small where n is near 0, on either side.
func Zig(n int64) uint64 {
	// The shift of an int64 keeps its sign: all bits are turned of n below 0, none of others.
	return uint64(n)<<1 ^ uint64(n>>63)
}

// Zag is the number whose Zig n is.
func Zag(n uint64) int64 {
	return int64(n>>1) ^ -int64(n&1)
}
