package poly_test

import (
	"bytes"
	"encoding/hex"
	"math/big"
	"slices"
	"testing"

	"casket/poly"
)

// roomy: b with spare room behind it, and a look whether any of it was changed.
func roomy(b []byte) ([]byte, func() bool) {
	whole := append(slices.Clone(b), bytes.Repeat([]byte{0xee}, 80)...)
	was := slices.Clone(whole)
	return whole[:len(b)], func() bool { return !bytes.Equal(whole, was) }
}

// text: so many bytes, each unlike its neighbours.
func text(n int) []byte {
	out := make([]byte, n)
	for i := range out {
		out[i] = byte(11 + 37*i + i>>8)
	}
	return out
}

// keyOf: a key of two halves, each begun with some bytes, with noughts behind.
func keyOf(r, s []byte) [32]byte {
	var out [32]byte
	copy(out[:16], r)
	copy(out[16:], s)
	return out
}

// big.Int reads the highest byte first.
func whole(b []byte) *big.Int {
	turned := slices.Clone(b)
	slices.Reverse(turned)
	return new(big.Int).SetBytes(turned)
}

func power(n uint) *big.Int {
	return new(big.Int).Lsh(big.NewInt(1), n)
}

// lowest: the sixteen lowest bytes of a number, the lowest first.
func lowest(x *big.Int) [16]byte {
	var out [16]byte
	new(big.Int).Mod(x, power(128)).FillBytes(out[:])
	slices.Reverse(out[:])
	return out
}

// reference: the tag as the chapter tells it, by the library's great numbers.
func reference(key [32]byte, b []byte) [16]byte {
	for _, i := range []int{3, 7, 11, 15} {
		key[i] &= 0x0f
	}
	for _, i := range []int{4, 8, 12} {
		key[i] &= 0xfc
	}
	r, s := whole(key[:16]), whole(key[16:])
	modulus := new(big.Int).Sub(power(130), big.NewInt(5))
	sum := new(big.Int)
	for part := range slices.Chunk(b, 16) {
		sum.Add(sum, whole(append(slices.Clone(part), 1)))
		sum.Mul(sum, r).Mod(sum, modulus)
	}
	return lowest(sum.Add(sum, s))
}

func bytesOf(t *testing.T, s string) []byte {
	t.Helper()
	b, err := hex.DecodeString(s)
	if err != nil {
		t.Fatal(err)
	}
	return b
}

func check(t *testing.T, key [32]byte, b []byte) {
	t.Helper()
	if got, want := poly.Tag(key, b), reference(key, b); got != want {
		t.Errorf("Tag(%x, %x) = %x, want %x", key, b, got, want)
	}
}

// P6.1: RFC 8439's examples of texts.
func TestKnownTexts(t *testing.T) {
	ietf := "Any submission to the IETF intended by the Contributor for publication as all or part of an IETF Internet-Draft or RFC and any statement made within the context of an IETF activity is considered an \"IETF Contribution\". Such statements include oral statements in IETF sessions, as well as written and electronic communications made at any time or place, which are addressed to"
	poem := "'Twas brillig, and the slithy toves\nDid gyre and gimble in the wabe:\nAll mimsy were the borogoves,\nAnd the mome raths outgrabe."
	for i, c := range []struct{ key, text, want string }{
		{"85d6be7857556d337f4452fe42d506a80103808afb0db2fd4abff6af4149f51b", "Cryptographic Forum Research Group", "a8061dc1305136c6c22b8baf0c0127a9"},
		{"0000000000000000000000000000000036e5f6b5c5e06070f0efca96227a863e", ietf, "36e5f6b5c5e06070f0efca96227a863e"},
		{"36e5f6b5c5e06070f0efca96227a863e00000000000000000000000000000000", ietf, "f3477e7cd95417af89a6b8794c310cf0"},
		{"1c9240a5eb55d38af333888604f6b5f0473917c1402b80099dca5cbc207075c0", poem, "4541669a7eaaee61e708dc7cbcc5eb62"},
	} {
		got := poly.Tag([32]byte(bytesOf(t, c.key)), []byte(c.text))
		if hex.EncodeToString(got[:]) != c.want {
			t.Errorf("%d: %x, want %s", i, got, c.want)
		}
	}
}

// P6.1: RFC 8439's examples about the edges of the modulus and of the words.
func TestKnownEdges(t *testing.T) {
	ones := "ffffffffffffffffffffffffffffffff"
	noughts := "00000000000000000000000000000000"
	for i, c := range []struct{ r, s, text, want string }{
		{noughts, noughts, noughts + noughts + noughts + noughts, noughts},
		{"02", noughts, ones, "03000000000000000000000000000000"},
		{"02", ones, "02000000000000000000000000000000", "03000000000000000000000000000000"},
		{"01", noughts, ones + "f0ffffffffffffffffffffffffffffff" + "11000000000000000000000000000000", "05000000000000000000000000000000"},
		{"01", noughts, ones + "fbfefefefefefefefefefefefefefefe" + "01010101010101010101010101010101", noughts},
		{"02", noughts, "fdffffffffffffffffffffffffffffff", "faffffffffffffffffffffffffffffff"},
		{"01000000000000000400000000000000", noughts, "e33594d7505e43b900000000000000003394d7505e4379cd01000000000000000000000000000000000000000000000001000000000000000000000000000000", "14000000000000005500000000000000"},
		{"01000000000000000400000000000000", noughts, "e33594d7505e43b900000000000000003394d7505e4379cd010000000000000000000000000000000000000000000000", "13000000000000000000000000000000"},
	} {
		got := poly.Tag(keyOf(bytesOf(t, c.r), bytesOf(t, c.s)), bytesOf(t, c.text))
		if hex.EncodeToString(got[:]) != c.want {
			t.Errorf("%d: %x, want %s", i, got, c.want)
		}
	}
}

// P6.1: with a first half of noughts the tag of all bytes is the last half; so it is of no bytes, whatever the first half.
func TestLastHalf(t *testing.T) {
	s := [16]byte(text(16))
	for _, n := range []int{0, 1, 15, 16, 17, 100} {
		if got := poly.Tag(keyOf(nil, s[:]), text(n)); got != s {
			t.Errorf("%d bytes: %x", n, got)
		}
	}
	for _, first := range []byte{0, 1, 0xff} {
		key := keyOf(bytes.Repeat([]byte{first}, 16), s[:])
		if poly.Tag(key, nil) != s || poly.Tag(key, []byte{}) != s {
			t.Errorf("no bytes, of a key of %x", first)
		}
	}
}

// P6.1: of the key's first half just the named bits are cleared.
func TestClearedBits(t *testing.T) {
	cleared := 0
	for at := range 128 {
		var r [16]byte
		r[at/8] = 1 << (at % 8)
		key := keyOf(r[:], nil)
		check(t, key, text(20))
		if poly.Tag(key, text(20)) == [16]byte{} {
			cleared++
		}
	}
	if cleared != 4*4+3*2 {
		t.Errorf("%d bits are cleared", cleared)
	}
	all := bytes.Repeat([]byte{0xff}, 16)
	kept := bytesOf(t, "ffffff0ffcffff0ffcffff0ffcffff0f")
	if poly.Tag(keyOf(all, nil), text(70)) != poly.Tag(keyOf(kept, nil), text(70)) {
		t.Error("what is cleared tells something")
	}
}

// P6.1: of all lengths about the edges of sixteen bytes, with keys of all kinds.
func TestLengths(t *testing.T) {
	keys := [][32]byte{
		{}, [32]byte(text(32)), [32]byte(bytes.Repeat([]byte{0xff}, 32)), keyOf([]byte{1}, nil),
		keyOf(bytes.Repeat([]byte{0xff}, 16), nil), keyOf([]byte{15: 0x0f}, bytes.Repeat([]byte{0x80}, 16)),
	}
	lengths := []int{255, 256, 257, 1000, 4096, 65537}
	for n := range 100 {
		lengths = append(lengths, n)
	}
	for _, n := range lengths {
		for _, key := range keys {
			check(t, key, text(n))
			check(t, key, make([]byte, n))
			check(t, key, bytes.Repeat([]byte{0xff}, n))
		}
	}
}

// P6.1: noughts behind, and fewer bytes, are told apart: the byte 1 stands behind the last ones.
func TestNoughtsBehind(t *testing.T) {
	key := [32]byte(text(32))
	for n := range 50 {
		for more := 1; more < 20; more++ {
			if b := text(n); poly.Tag(key, b) == poly.Tag(key, append(b, make([]byte, more)...)) {
				t.Errorf("%d bytes, and %d noughts", n, more)
			}
		}
	}
}

// P6.1: sums about the modulus and about 2^130, where r is 1: three parts of sixteen bytes are three times 2^128, and what they hold.
func TestAboutTheModulus(t *testing.T) {
	for _, s := range [][]byte{nil, {5}, bytes.Repeat([]byte{0xff}, 16), text(16)} {
		for off := int64(-12); off <= 12; off++ {
			rest := new(big.Int).Add(power(128), big.NewInt(off-5)) // of 2^130 - 5 and off
			first := new(big.Int).Rsh(rest, 1)
			a, b := lowest(first), lowest(rest.Sub(rest, first))
			check(t, keyOf([]byte{1}, s), slices.Concat(a[:], b[:], make([]byte, 16)))
			check(t, keyOf([]byte{1}, s), slices.Concat(a[:], make([]byte, 16), b[:]))
		}
	}
}

// P6.1: limbs and words that are full, and run over one by one.
func TestFullWords(t *testing.T) {
	for n := uint(0); n <= 128; n++ {
		for _, off := range []int64{-1, 0, 1} {
			x := lowest(new(big.Int).Add(power(n), big.NewInt(off)))
			filled := bytes.Repeat([]byte{0xff}, 16)
			for _, r := range [][]byte{{1}, {2}, x[:], filled} {
				check(t, keyOf(r, x[:]), x[:])
				check(t, keyOf(r, filled), append(x[:], filled...))
				check(t, keyOf(r, x[:]), append(filled, x[:]...))
			}
		}
	}
}

// P6.1: the sum with the last half goes round at 2^128.
func TestSumGoesRound(t *testing.T) {
	for i := range 16 {
		s := bytes.Repeat([]byte{0xff}, 16)
		s[i] = 0xfe
		for _, b := range [][]byte{{}, {1}, text(16), text(33), bytes.Repeat([]byte{0xff}, 48)} {
			check(t, keyOf([]byte{1}, s), b)
			check(t, keyOf(text(16), s), b)
		}
	}
}

// P6.1: the tag hangs on each bit of the text and of the key's last half, as the reference's does.
func TestEachBit(t *testing.T) {
	key, b := [32]byte(text(32)), text(37)
	plain := poly.Tag(key, b)
	for at := range 8 * len(b) {
		other := slices.Clone(b)
		other[at/8] ^= 1 << (at % 8)
		check(t, key, other)
		if poly.Tag(key, other) == plain {
			t.Errorf("bit %d of the text tells nothing", at)
		}
	}
	for at := range 128 {
		other := key
		other[16+at/8] ^= 1 << (at % 8)
		check(t, other, b)
		if poly.Tag(other, b) == plain {
			t.Errorf("bit %d of the key's last half tells nothing", at)
		}
	}
}

// P6.2: bytes that are handed in aren't changed, their spare room neither.
func TestUnchanged(t *testing.T) {
	for _, n := range []int{0, 1, 15, 16, 17, 33} {
		b, changed := roomy(text(n))
		poly.Tag([32]byte(text(32)), b)
		if changed() {
			t.Errorf("%d bytes were changed", n)
		}
	}
}

// P6.2: what stands in spare room tells nothing.
func TestSpareRoom(t *testing.T) {
	key := [32]byte(text(32))
	for n := range 40 {
		b, _ := roomy(text(n))
		if poly.Tag(key, b) != poly.Tag(key, text(n)) {
			t.Errorf("%d bytes: their spare room tells", n)
		}
	}
}

// P6.2: what was handed in isn't kept: each answer is of what is handed in now.
func TestNotKept(t *testing.T) {
	key, b := [32]byte(text(32)), text(40)
	first := poly.Tag(key, b)
	for i := range b {
		b[i] ^= 0x5a
	}
	check(t, key, b)
	if poly.Tag(key, text(40)) != first {
		t.Error("two answers of the same")
	}
}

// P1: every call ends without a panic.
func TestAllArguments(t *testing.T) {
	for first := range 256 {
		key := [32]byte(bytes.Repeat([]byte{byte(first)}, 32))
		for _, b := range [][]byte{nil, {}, {byte(first)}, text(first), bytes.Repeat(key[:], 5)} {
			check(t, key, b)
		}
	}
}
