package poly

import "casket/bits"

const (
	limbs    = 5
	limbBits = 26
	limbMask = 1<<limbBits - 1
	lack     = 5 // the modulus is 2^130 less by this, so 2^130 is as much as this
)

// number is a whole number modulo 2^130 - 5, in limbs of 26 bits, the lowest first. That leaves room in a limb's word for sums of products, till they are carried.
type number [limbs]uint64

// numberOf: a number below 2^130, out of its two lower words and what is above them.
func numberOf(low, high, top uint64) number {
	return number{
		low & limbMask,
		low >> 26 & limbMask,
		(low>>52 | high<<12) & limbMask,
		high >> 14 & limbMask,
		high>>40 | top<<24,
	}
}

func (n number) plus(m number) number {
	for i, x := range m {
		n[i] += x
	}
	return n
}

func (n number) times(m number) number {
	var out number
	for i, x := range n {
		for j, y := range m {
			if i+j < limbs {
				out[i+j] += x * y
			} else {
				out[i+j-limbs] += x * y * lack
			}
		}
	}
	return out.reduced()
}

// carried: each limb of 26 bits again, and what ran over 2^130.
func (n number) carried() (number, uint64) {
	over := uint64(0)
	for i, x := range n {
		x += over
		n[i] = x & limbMask
		over = x >> limbBits
	}
	return n, over
}

// reduced: of a sum of products the same modulo 2^130 - 5. The first turn leaves much in the lowest limb, the second no more than 26 bits and 5, so that the number is below 2^130 + 5.
func (n number) reduced() number {
	for range 2 {
		low, over := n.carried()
		low[0] += lack * over
		n = low
	}
	return n
}

// least: of a reduced number the same modulo 2^130 - 5, and below that.
func (n number) least() number {
	beyond := n
	beyond[0] += lack
	_, over := beyond.carried() // 1 from the modulus on, else 0: no branch hangs on what is secret
	n[0] += lack * over
	n, _ = n.carried()
	return n
}

// lowest: the lowest sixteen bytes, the lowest first.
func (n number) lowest() [16]byte {
	n, _ = n.carried()
	var out [16]byte
	copy(out[:wordSize], bits.PutLow(n[0]|n[1]<<26|n[2]<<52, wordSize))
	copy(out[wordSize:], bits.PutLow(n[2]>>12|n[3]<<14|n[4]<<40, wordSize))
	return out
}
