// Package bits is layer 1: words out of bytes, and back; numbers of another size: see shared/doc/01-bits.md.
package bits

import (
	"math"
	"slices"
)

const (
	wordBits    = 32
	wordBytes   = 4
	doubleBytes = 8
	mostPut     = 64 // bytes that PutLow and PutHigh answer at most
)

// Left: turned by so many bits.
func Left(x uint32, n int) uint32 {
	by := uint(n) % wordBits // a number below 0 is 2^64 more as a uint, and 32 divides that
	return x<<by | x>>(wordBits-by)
}

// Low32, High32: a word of four bytes, the lowest, or the highest, first; Low64, High64: of eight.
func Low32(b []byte) (uint32, bool) {
	if len(b) != wordBytes {
		return 0, false
	}
	return uint32(lowestFirst(b)), true
}

func High32(b []byte) (uint32, bool) {
	if len(b) != wordBytes {
		return 0, false
	}
	return uint32(highestFirst(b)), true
}

func Low64(b []byte) (uint64, bool) {
	if len(b) != doubleBytes {
		return 0, false
	}
	return lowestFirst(b), true
}

func High64(b []byte) (uint64, bool) {
	if len(b) != doubleBytes {
		return 0, false
	}
	return highestFirst(b), true
}

func lowestFirst(b []byte) uint64 {
	x := uint64(0)
	for i, one := range b {
		x |= uint64(one) << (8 * i)
	}
	return x
}

func highestFirst(b []byte) uint64 {
	x := uint64(0)
	for _, one := range b {
		x = x<<8 | uint64(one)
	}
	return x
}

// PutLow, PutHigh: so many bytes of a word.
func PutLow(x uint64, size int) []byte {
	out := make([]byte, min(max(size, 0), mostPut))
	for i := range out {
		out[i] = byte(x)
		x >>= 8
	}
	return out
}

func PutHigh(x uint64, size int) []byte {
	out := PutLow(x, size)
	slices.Reverse(out)
	return out
}

// Byte, Word, Int: a number as one of another size, if it is one.
func Byte(n int) (byte, bool) {
	if n < 0 || n > math.MaxUint8 {
		return 0, false
	}
	return byte(n), true
}

func Word(n int) (uint32, bool) {
	if n < 0 || uint64(n) > math.MaxUint32 {
		return 0, false
	}
	return uint32(n), true
}

func Int(x uint64) (int, bool) {
	if x > math.MaxInt {
		return 0, false
	}
	return int(x), true
}

// Same: are bytes the same? All are looked at, whatever is found: how long it takes tells nobody where a guessed tag goes wrong.
func Same(a, b []byte) bool {
	unlike := byte(0)
	for i := range min(len(a), len(b)) {
		unlike |= a[i] ^ b[i]
	}
	return unlike == 0 && len(a) == len(b)
}

// Mix: byte by byte the exclusive or, as long as the shorter one.
func Mix(a, b []byte) []byte {
	out := make([]byte, min(len(a), len(b)))
	for i := range out {
		out[i] = a[i] ^ b[i]
	}
	return out
}
