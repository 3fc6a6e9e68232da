package chacha_test

import (
	"bytes"
	"encoding/binary"
	"encoding/hex"
	"math"
	mathbits "math/bits"
	"slices"
	"testing"

	"casket/chacha"
)

var someCounters = []uint32{0, 1, 2, 0xff, 0x100, 0xffff, 0x10000, 0x01020304, 1<<31 - 1, 1 << 31, math.MaxUint32 - 1, math.MaxUint32}

// roomy: b with spare room behind it, and a look whether any of it was changed.
func roomy(b []byte) ([]byte, func() bool) {
	whole := append(slices.Clone(b), bytes.Repeat([]byte{0xee}, 80)...)
	was := slices.Clone(whole)
	return whole[:len(b)], func() bool { return !bytes.Equal(whole, was) }
}

// text: so many bytes, each unlike its neighbours.
func text(n int) []byte {
	out := make([]byte, n)
	for i := range out {
		out[i] = byte(11 + 37*i + i>>8)
	}
	return out
}

// someKey, someNonce: each byte unlike the others.
func someKey(first byte) [32]byte {
	var out [32]byte
	for i := range out {
		out[i] = first + byte(7*i)
	}
	return out
}

func someNonce(first byte) [12]byte {
	var out [12]byte
	for i := range out {
		out[i] = first + byte(19*i)
	}
	return out
}

// reference: a block as the chapter tells it, with the quarters' words written out.
func reference(key [32]byte, counter uint32, nonce [12]byte) [64]byte {
	var start [16]uint32
	copy(start[:], []uint32{0x61707865, 0x3320646e, 0x79622d32, 0x6b206574})
	for i := range 8 {
		start[4+i] = binary.LittleEndian.Uint32(key[4*i:])
	}
	start[12] = counter
	for i := range 3 {
		start[13+i] = binary.LittleEndian.Uint32(nonce[4*i:])
	}
	w := start
	for range 10 {
		for _, q := range [][4]int{
			{0, 4, 8, 12}, {1, 5, 9, 13}, {2, 6, 10, 14}, {3, 7, 11, 15},
			{0, 5, 10, 15}, {1, 6, 11, 12}, {2, 7, 8, 13}, {3, 4, 9, 14},
		} {
			a, b, c, d := w[q[0]], w[q[1]], w[q[2]], w[q[3]]
			a += b
			d = mathbits.RotateLeft32(d^a, 16)
			c += d
			b = mathbits.RotateLeft32(b^c, 12)
			a += b
			d = mathbits.RotateLeft32(d^a, 8)
			c += d
			b = mathbits.RotateLeft32(b^c, 7)
			w[q[0]], w[q[1]], w[q[2]], w[q[3]] = a, b, c, d
		}
	}
	var out [64]byte
	for i := range w {
		binary.LittleEndian.PutUint32(out[4*i:], w[i]+start[i])
	}
	return out
}

// referenceStream: bytes by the reference's blocks, one by one.
func referenceStream(key [32]byte, counter uint32, nonce [12]byte, b []byte) []byte {
	out := make([]byte, len(b))
	for i := range b {
		block := reference(key, counter+uint32(i/64), nonce)
		out[i] = b[i] ^ block[i%64]
	}
	return out
}

// P5.1: the blocks of RFC 8439's examples.
func TestKnownBlocks(t *testing.T) {
	var rising, last [32]byte
	for i := range rising {
		rising[i] = byte(i)
	}
	last[31] = 1
	for i, c := range []struct {
		key     [32]byte
		counter uint32
		nonce   [12]byte
		want    string
	}{
		{rising, 1, [12]byte{3: 9, 7: 0x4a}, "10f1e7e4d13b5915500fdd1fa32071c4c7d1f4c733c068030422aa9ac3d46c4ed2826446079faa0914c2d705d98b02a2b5129cd1de164eb9cbd083e8a2503c4e"},
		{[32]byte{}, 0, [12]byte{}, "76b8e0ada0f13d90405d6ae55386bd28bdd219b8a08ded1aa836efcc8b770dc7da41597c5157488d7724e03fb8d84a376a43b8f41518a11cc387b669b2ee6586"},
		{[32]byte{}, 1, [12]byte{}, "9f07e7be5551387a98ba977c732d080dcb0f29a048e3656912c6533e32ee7aed29b721769ce64e43d57133b074d839d531ed1f28510afb45ace10a1f4b794d6f"},
		{last, 1, [12]byte{}, "3aeb5224ecf849929b9d828db1ced4dd832025e8018b8160b82284f3c949aa5a8eca00bbb4a73bdad192b5c42f73f2fd4e273644c8b36125a64addeb006c13a0"},
		{[32]byte{1: 0xff}, 2, [12]byte{}, "72d54dfbf12ec44b362692df94137f328fea8da73990265ec1bbbea1ae9af0ca13b25aa26cb4a648cb9b9d1be65b2c0924a66c54d545ec1b7374f4872e99f096"},
		{[32]byte{}, 0, [12]byte{11: 2}, "c2c64d378cd536374ae204b9ef933fcd1a8b2288b3dfa49672ab765b54ee27c78a970e0e955c14f3a88e741b97c286f75f8fc299e8148362fa198a39531bed6d"},
	} {
		got := chacha.Block(c.key, c.counter, c.nonce)
		if hex.EncodeToString(got[:]) != c.want {
			t.Errorf("%d: %x, want %s", i, got, c.want)
		}
	}
}

// P5.1: the stream of RFC 8439's example.
func TestKnownStream(t *testing.T) {
	var key [32]byte
	for i := range key {
		key[i] = byte(i)
	}
	b := []byte("Ladies and Gentlemen of the class of '99: If I could offer you only one tip for the future, sunscreen would be it.")
	want := "6e2e359a2568f98041ba0728dd0d6981e97e7aec1d4360c20a27afccfd9fae0bf91b65c5524733ab8f593dabcd62b3571639d624e65152ab8f530c359f0861d807ca0dbf500d6a6156a38e088a22b65e52bc514d16ccf806818ce91ab77937365af90bbf74a35be6b40b8eedf2785e42874d"
	got := chacha.Stream(key, 1, [12]byte{7: 0x4a}, b)
	if hex.EncodeToString(got) != want {
		t.Errorf("%x, want %s", got, want)
	}
}

// P5.1: Block, of keys, counters and nonces of all kinds.
func TestBlock(t *testing.T) {
	keys := [][32]byte{{}, someKey(1), someKey(0x90), [32]byte(bytes.Repeat([]byte{0xff}, 32))}
	nonces := [][12]byte{{}, someNonce(3), someNonce(0x80), [12]byte(bytes.Repeat([]byte{0xff}, 12))}
	for _, key := range keys {
		for _, nonce := range nonces {
			for _, counter := range someCounters {
				if got, want := chacha.Block(key, counter, nonce), reference(key, counter, nonce); got != want {
					t.Errorf("Block(%x, %d, %x) = %x, want %x", key, counter, nonce, got, want)
				}
			}
		}
	}
}

// P5.1: Block hangs on each bit of the key, of the counter and of the nonce, as the reference does.
func TestBlockEachBit(t *testing.T) {
	plain := chacha.Block([32]byte{}, 0, [12]byte{})
	for at := range 8 * (32 + 4 + 12) {
		var key [32]byte
		var nonce [12]byte
		counter := uint32(0)
		switch {
		case at < 8*32:
			key[at/8] = 1 << (at % 8)
		case at < 8*36:
			counter = 1 << (at - 8*32)
		default:
			nonce[at/8-36] = 1 << (at % 8)
		}
		got := chacha.Block(key, counter, nonce)
		if got == plain || got != reference(key, counter, nonce) {
			t.Errorf("bit %d: %x", at, got)
		}
	}
}

// P5.1: Stream, of all lengths about the blocks' edges.
func TestStreamLengths(t *testing.T) {
	key, nonce := someKey(5), someNonce(9)
	lengths := []int{319, 320, 321, 4095, 4096, 4097}
	for n := range 200 {
		lengths = append(lengths, n)
	}
	for _, n := range lengths {
		b := text(n)
		if got, want := chacha.Stream(key, 7, nonce, b), referenceStream(key, 7, nonce, b); !bytes.Equal(got, want) {
			t.Errorf("%d bytes: %x, want %x", n, got, want)
		}
	}
	if len(chacha.Stream(key, 7, nonce, nil)) != 0 || len(chacha.Stream(key, 7, nonce, []byte{})) != 0 {
		t.Error("of no bytes there are some")
	}
}

// P5.1: of noughts, Stream answers the blocks themselves, from the counter on.
func TestStreamIsBlocks(t *testing.T) {
	key, nonce := someKey(0x33), someNonce(0x44)
	for _, counter := range someCounters {
		got := chacha.Stream(key, counter, nonce, make([]byte, 5*64))
		for i := range 5 {
			if block := chacha.Block(key, counter+uint32(i), nonce); !bytes.Equal(got[64*i:64*i+64], block[:]) {
				t.Errorf("from %d on, block %d: %x, want %x", counter, i, got[64*i:64*i+64], block)
			}
		}
	}
}

// P5.1: the counter goes round at 2^32, the nonce stays.
func TestCounterGoesRound(t *testing.T) {
	key, nonce := someKey(2), someNonce(1)
	b := text(300)
	got := chacha.Stream(key, math.MaxUint32-1, nonce, b)
	if want := referenceStream(key, math.MaxUint32-1, nonce, b); !bytes.Equal(got, want) {
		t.Errorf("%x, want %x", got, want)
	}
	if !bytes.Equal(got[128:], chacha.Stream(key, 0, nonce, b[128:])) {
		t.Error("behind the last block there isn't the first one")
	}
}

// P5.1: a stream of more blocks than 16 bits count.
func TestStreamLong(t *testing.T) {
	key, nonce := someKey(1), someNonce(2)
	const blocks = 1<<16 + 3
	got := chacha.Stream(key, 0, nonce, make([]byte, 64*blocks+1))
	if len(got) != 64*blocks+1 {
		t.Fatalf("%d bytes", len(got))
	}
	for _, i := range []int{0, 1, 255, 256, 257, 1<<16 - 1, 1 << 16, 1<<16 + 1, blocks - 1} {
		if want := reference(key, uint32(i), nonce); !bytes.Equal(got[64*i:64*i+64], want[:]) {
			t.Errorf("block %d: %x, want %x", i, got[64*i:64*i+64], want)
		}
	}
	if want := reference(key, blocks, nonce); got[64*blocks] != want[0] {
		t.Errorf("the last byte: %x, want %x", got[64*blocks], want[0])
	}
}

// P5.2: streamed twice, bytes are what they were; once, they aren't.
func TestTwice(t *testing.T) {
	key, nonce := someKey(0x71), someNonce(0x17)
	for _, counter := range someCounters {
		for _, n := range []int{0, 1, 63, 64, 65, 127, 128, 129, 500} {
			b := text(n)
			once := chacha.Stream(key, counter, nonce, b)
			if got := chacha.Stream(key, counter, nonce, once); !bytes.Equal(got, b) {
				t.Errorf("%d bytes from %d on: %x, want %x", n, counter, got, b)
			}
			if n >= 63 && bytes.Equal(once, b) {
				t.Errorf("%d bytes from %d on are as they were", n, counter)
			}
		}
	}
}

// P5.3: bytes that are handed in aren't changed, their spare room neither.
func TestUnchanged(t *testing.T) {
	for _, n := range []int{0, 1, 63, 64, 65, 200} {
		b, changed := roomy(text(n))
		chacha.Stream(someKey(1), 3, someNonce(2), b)
		if changed() {
			t.Errorf("%d bytes were changed", n)
		}
	}
}

// P5.3: answers are new memory: writing into one changes neither the argument nor another answer.
func TestNewMemory(t *testing.T) {
	for _, n := range []int{1, 63, 64, 65, 200} {
		b, changed := roomy(text(n))
		first := chacha.Stream(someKey(1), 3, someNonce(2), b)
		second := chacha.Stream(someKey(1), 3, someNonce(2), b)
		was := slices.Clone(second)
		for i := range first {
			first[i] ^= 0x55
		}
		_ = append(first, 1, 2, 3)
		if changed() || !bytes.Equal(second, was) {
			t.Errorf("%d bytes: an answer shares memory", n)
		}
		if !bytes.Equal(chacha.Stream(someKey(1), 3, someNonce(2), b), was) {
			t.Errorf("%d bytes: a later answer is another one", n)
		}
	}
}

// P5.3: what was handed in isn't kept: an answer stays as it is when the argument changes.
func TestNotKept(t *testing.T) {
	key, nonce, b := someKey(1), someNonce(2), text(100)
	got := chacha.Stream(key, 3, nonce, b)
	was := slices.Clone(got)
	for i := range b {
		b[i] = 0
	}
	if !bytes.Equal(got, was) {
		t.Error("an answer hangs on what was handed in")
	}
	if got := chacha.Stream(key, 3, nonce, b); !bytes.Equal(got, referenceStream(key, 3, nonce, b)) {
		t.Errorf("%x, of what was handed in ahead", got)
	}
}

// P1: every call ends without a panic, and answers the same again.
func TestAllArguments(t *testing.T) {
	for _, counter := range someCounters {
		for _, b := range [][]byte{nil, {}, {0}, text(63), text(64), text(1000)} {
			for first := range 5 {
				key, nonce := someKey(byte(60*first)), someNonce(byte(50*first))
				if chacha.Block(key, counter, nonce) != chacha.Block(key, counter, nonce) {
					t.Error("two blocks of the same")
				}
				got := chacha.Stream(key, counter, nonce, b)
				if len(got) != len(b) || !bytes.Equal(got, chacha.Stream(key, counter, nonce, b)) {
					t.Errorf("%d bytes of %d, or two streams of the same", len(got), len(b))
				}
			}
		}
	}
}
