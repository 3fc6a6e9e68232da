// Package sha2 is layer 2: digests of 32 bytes: see shared/doc/02-sha2.md.
package sha2

import "casket/bits"

const (
	blockSize = 64
	countAt   = 56 // where a last block's count begins
	countSize = 8
	wordSize  = 4
	rounds    = 64
)

// roundWords: of the first 64 primes the first 32 bits behind the point of their cube roots.
var roundWords = [rounds]uint32{
	0x428a2f98, 0x71374491, 0xb5c0fbcf, 0xe9b5dba5, 0x3956c25b, 0x59f111f1, 0x923f82a4, 0xab1c5ed5,
	0xd807aa98, 0x12835b01, 0x243185be, 0x550c7dc3, 0x72be5d74, 0x80deb1fe, 0x9bdc06a7, 0xc19bf174,
	0xe49b69c1, 0xefbe4786, 0x0fc19dc6, 0x240ca1cc, 0x2de92c6f, 0x4a7484aa, 0x5cb0a9dc, 0x76f988da,
	0x983e5152, 0xa831c66d, 0xb00327c8, 0xbf597fc7, 0xc6e00bf3, 0xd5a79147, 0x06ca6351, 0x14292967,
	0x27b70a85, 0x2e1b2138, 0x4d2c6dfc, 0x53380d13, 0x650a7354, 0x766a0abb, 0x81c2c92e, 0x92722c85,
	0xa2bfe8a1, 0xa81a664b, 0xc24b8b70, 0xc76c51a3, 0xd192e819, 0xd6990624, 0xf40e3585, 0x106aa070,
	0x19a4c116, 0x1e376c08, 0x2748774c, 0x34b0bcb5, 0x391c0cb3, 0x4ed8aa4a, 0x5b9cca4f, 0x682e6ff3,
	0x748f82ee, 0x78a5636f, 0x84c87814, 0x8cc70208, 0x90befffa, 0xa4506ceb, 0xbef9a3f7, 0xc67178f2,
}

// startWords: of the first 8 primes the first 32 bits behind the point of their square roots.
func startWords() [8]uint32 {
	return [8]uint32{0x6a09e667, 0xbb67ae85, 0x3c6ef372, 0xa54ff53a, 0x510e527f, 0x9b05688c, 0x1f83d9ab, 0x5be0cd19}
}

// Sum: the digest of parts, one behind the other.
func Sum(parts ...[]byte) [32]byte {
	m := message{words: startWords()}
	for _, p := range parts {
		m.take(p)
	}
	m.end()
	return m.digest()
}

// message is what was taken so far: the words behind its whole blocks, and the block that isn't whole.
type message struct {
	words [8]uint32
	block [blockSize]byte
	held  int // bytes of block
	count uint64
}

func (m *message) take(b []byte) {
	m.count += uint64(len(b))
	for len(b) > 0 {
		n := copy(m.block[m.held:], b)
		b = b[n:]
		m.held += n
		if m.held == blockSize {
			m.held = 0
			m.mix()
		}
	}
}

// end takes what stands behind a message's bytes, so that no block is left over.
func (m *message) end() {
	count := m.count
	noughts := (blockSize + countAt - 1 - m.held) % blockSize
	m.take([]byte{0x80})
	m.take(make([]byte, noughts))
	m.take(bits.PutHigh(8*count, countSize))
}

func (m *message) digest() [32]byte {
	var out [32]byte
	for i, x := range m.words {
		copy(out[wordSize*i:], bits.PutHigh(uint64(x), wordSize))
	}
	return out
}

// mix puts the block, that is whole, into the words.
func (m *message) mix() {
	w := schedule(m.block)
	a, b, c, d := m.words[0], m.words[1], m.words[2], m.words[3]
	e, f, g, h := m.words[4], m.words[5], m.words[6], m.words[7]
	for t := range rounds {
		first := h + turned(e, 6, 11, 25) + (e&f ^ ^e&g) + roundWords[t] + w[t]
		second := turned(a, 2, 13, 22) + (a&b ^ a&c ^ b&c)
		h, g, f, e = g, f, e, d+first
		d, c, b, a = c, b, a, first+second
	}
	for i, x := range [8]uint32{a, b, c, d, e, f, g, h} {
		m.words[i] += x
	}
}

// schedule: the words of a block, and those that come of them.
func schedule(block [blockSize]byte) [rounds]uint32 {
	var w [rounds]uint32
	for t := range blockSize / wordSize {
		w[t], _ = bits.High32(block[wordSize*t : wordSize*(t+1)])
	}
	for t := blockSize / wordSize; t < rounds; t++ {
		w[t] = moved(w[t-2], 17, 19, 10) + w[t-7] + moved(w[t-15], 7, 18, 3) + w[t-16]
	}
	return w
}

// turned: x turned right by each of three counts, together by exclusive or.
func turned(x uint32, i, j, k int) uint32 {
	return bits.Left(x, -i) ^ bits.Left(x, -j) ^ bits.Left(x, -k)
}

// moved: x turned right by each of two counts, and moved right by a third one, together by exclusive or.
func moved(x uint32, i, j, by int) uint32 {
	return bits.Left(x, -i) ^ bits.Left(x, -j) ^ x>>by
}
