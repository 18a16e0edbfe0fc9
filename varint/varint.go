// Package varint is layer 1; see shared/doc/01-varint.md.
package varint

import (
	"iter"
	"math/bits"

	"mirtower/api"
)

const (
	groupBits = 7
	more      = 1 << groupBits // the bit that says that another byte follows
	maxSize   = 10             // 64 bits need ten groups
	lastMost  = 1              // nine groups have 63 bits, so the tenth one has a single bit left
)

// encoding yields the bytes of the encoding of a number in order.
func encoding(n uint64) iter.Seq[byte] {
	return func(yield func(byte) bool) {
		rest := n // a copy, so that the sequence can be ranged over again
		for rest >= more {
			if !yield(byte(rest) | more) {
				return
			}
			rest >>= groupBits
		}
		yield(byte(rest))
	}
}

// Put encodes a number.
func Put(n uint64) []byte {
	out := make([]byte, 0, Size(n))
	for c := range encoding(n) {
		out = append(out, c)
	}
	return out
}

// Get decodes the number at an offset; it returns the number and the offset after it.
func Get(b []byte, at int) (uint64, int, api.Errno) {
	if at < 0 || at > len(b) {
		return 0, 0, api.ErrArg
	}
	var n uint64
	for i, c := range b[at:] {
		// A tenth byte that says that another one follows is too great as well, so the loop ends here at the latest.
		if i == maxSize-1 && c > lastMost {
			return 0, 0, api.ErrOverflow
		}
		n |= uint64(c&^more) << (groupBits * i)
		if c&more != 0 {
			continue
		}
		// Only the number 0 itself needs a last group of zeros.
		if c == 0 && i > 0 {
			return 0, 0, api.ErrMinimal
		}
		return n, at + i + 1, api.OK
	}
	return 0, 0, api.ErrEOF
}

// Size returns the length of the encoding of a number.
func Size(n uint64) int {
	// The number 0 takes a group too, as 1 does.
	return (bits.Len64(n|1) + groupBits - 1) / groupBits
}

// Zigzag converts a signed number to an unsigned one.
func Zigzag(n int64) uint64 {
	// The shift of the sign gives 0 or all ones, which inverts the doubled number if it is negative.
	return uint64(n<<1) ^ uint64(n>>63)
}

// Unzigzag converts an unsigned number to a signed one.
func Unzigzag(u uint64) int64 {
	return int64(u>>1) ^ -int64(u&1)
}
