// Package word is layer 1: see shared/doc/01-word.md.
package word

import (
	"math/bits"

	"jetway/api"
)

const (
	wordBytes  = 8  // bytes of the widest number that Put lays
	varBytes   = 10 // bytes of the longest number that Var lays: 64 bits, seven a byte
	varBits    = 7
	more       = 1 << varBits // the bit of a byte of Var's behind which another one stands
	polynomial = 0xEDB88320
)

// Put: bytes, and a number's behind them.
func Put(b []byte, n uint64, size int) []byte {
	size = min(max(size, 0), wordBytes)
	out := roomier(b, size)
	for i := range size {
		out[len(out)-1-i] = byte(n >> (8 * i))
	}
	return out
}

// Get: the number at a place.
func Get(b []byte, at, size int) (uint64, api.Errno) {
	if size < 1 || size > wordBytes || at < 0 {
		return 0, api.ErrRange
	}
	// The size is taken off the length, as the sum of a great place and a size wraps round.
	if at > len(b)-size {
		return 0, api.ErrShort
	}
	n := uint64(0)
	for i := range size {
		n = n<<8 | uint64(b[at+i])
	}
	return n, api.OK
}

// Var: bytes, and a number in as few as it takes.
func Var(b []byte, n uint64) []byte {
	// 0 has no bit that counts, but takes a byte as 1 does.
	size := (bits.Len64(n|1) + varBits - 1) / varBits
	out := roomier(b, size)
	for i := range size {
		out[len(b)+i] = byte(n>>(varBits*i)) | more
	}
	out[len(out)-1] &^= more
	return out
}

// ReadVar: the number with which bytes begin.
func ReadVar(b []byte) (n uint64, size int, e api.Errno) {
	// No byte behind the tenth is looked at: the tenth is the last one, or refused.
	for i, c := range b {
		if i == varBytes-1 && c > 1 || i > 0 && c == 0 {
			return 0, 0, api.ErrForm
		}
		n |= uint64(c&^more) << (varBits * i)
		if c < more {
			return n, i + 1, api.OK
		}
	}
	return 0, 0, api.ErrShort
}

// Zig: a number with a sign as one without.
func Zig(n int64) uint64 {
	// Below 0, -2 n - 1 has just the bits of 2 n turned, and the shift to the right spreads the sign over all bits.
	return uint64(n)<<1 ^ uint64(n>>63)
}

// Zag: and back.
func Zag(n uint64) int64 {
	return int64(n>>1) ^ -int64(n&1)
}

// Sum: a check sum.
func Sum(parts ...[]byte) uint32 {
	sum := ^uint32(0)
	for _, part := range parts {
		for _, c := range part {
			sum = stir(sum ^ uint32(c))
		}
	}
	return ^sum
}

// stir takes the lowest eight bits of a sum out, one by one.
func stir(sum uint32) uint32 {
	for range 8 {
		// The mask is all bits where the lowest one is set, none else: no branch, as this is gone through for every bit of a disk.
		sum = sum>>1 ^ polynomial&-(sum&1)
	}
	return sum
}

// roomier answers new memory, so that what is laid behind b's bytes never stands in b's spare room.
func roomier(b []byte, size int) []byte {
	out := make([]byte, len(b)+size)
	copy(out, b)
	return out
}
