// Package hmac is layer 3: digests with a key: see shared/doc/03-hmac.md.
package hmac

import (
	"bytes"

	"casket/bits"
	"casket/sha2"
)

const (
	blockSize = 64
	innerMask = 0x36
	outerMask = 0x5c
)

// Sum: of parts, one behind the other, with a key.
func Sum(key []byte, parts ...[]byte) [32]byte {
	block := blockOf(key)
	inner := [][]byte{masked(block, innerMask)}
	inner = append(inner, parts...)
	digest := sha2.Sum(inner...)
	return sha2.Sum(masked(block, outerMask), digest[:])
}

// blockOf: the block of a key: it, or its digest, and noughts behind.
func blockOf(key []byte) []byte {
	block := make([]byte, blockSize)
	if len(key) > blockSize {
		digest := sha2.Sum(key)
		copy(block, digest[:])
	} else {
		copy(block, key)
	}
	return block
}

func masked(block []byte, mask byte) []byte {
	return bits.Mix(block, bytes.Repeat([]byte{mask}, blockSize))
}
