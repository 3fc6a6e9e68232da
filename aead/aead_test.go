package aead_test

import (
	"bytes"
	"encoding/binary"
	"encoding/hex"
	"slices"
	"testing"

	"casket/aead"
	"casket/api"
	"casket/chacha"
	"casket/poly"
)

var someLengths = []int{0, 1, 15, 16, 17, 31, 32, 33, 63, 64, 65, 100, 128, 256, 1000}

// roomy: b with spare room behind it, and a look whether any of it was changed.
func roomy(b []byte) ([]byte, func() bool) {
	whole := append(slices.Clone(b), bytes.Repeat([]byte{0xee}, 80)...)
	was := slices.Clone(whole)
	return whole[:len(b)], func() bool { return !bytes.Equal(whole, was) }
}

// text: so many bytes, each unlike its neighbours.
func text(first byte, n int) []byte {
	out := make([]byte, n)
	for i := range out {
		out[i] = first + byte(37*i+i>>8)
	}
	return out
}

func keyOf(first byte) [32]byte   { return [32]byte(text(first, 32)) }
func nonceOf(first byte) [12]byte { return [12]byte(text(first, 12)) }

func bytesOf(t *testing.T, s string) []byte {
	t.Helper()
	b, err := hex.DecodeString(s)
	if err != nil {
		t.Fatal(err)
	}
	return b
}

// filled: b with noughts behind, up to a multiple of sixteen bytes.
func filled(b []byte) []byte {
	out := slices.Clone(b)
	for len(out)%16 != 0 {
		out = append(out, 0)
	}
	return out
}

// reference: what is sealed as the chapter tells it, by the layers below.
func reference(key [32]byte, nonce [12]byte, with, b []byte) []byte {
	hidden := chacha.Stream(key, 1, nonce, b)
	told := slices.Concat(filled(with), filled(hidden))
	told = binary.LittleEndian.AppendUint64(told, uint64(len(with)))
	told = binary.LittleEndian.AppendUint64(told, uint64(len(hidden)))
	block := chacha.Block(key, 0, nonce)
	tag := poly.Tag([32]byte(block[:32]), told)
	return append(hidden, tag[:]...)
}

// refused: an error, and no bytes beside it.
func refused(t *testing.T, what string, want api.Errno, key [32]byte, nonce [12]byte, with, sealed []byte) {
	t.Helper()
	if b, e := aead.Open(key, nonce, with, sealed); len(b) != 0 || e != want {
		t.Errorf("%s: %d bytes, error %d, want %d", what, len(b), e, want)
	}
}

// P7.1: RFC 8439's example of sealing.
func TestKnownSeal(t *testing.T) {
	key := [32]byte(bytesOf(t, "808182838485868788898a8b8c8d8e8f909192939495969798999a9b9c9d9e9f"))
	nonce := [12]byte(bytesOf(t, "070000004041424344454647"))
	with := bytesOf(t, "50515253c0c1c2c3c4c5c6c7")
	b := []byte("Ladies and Gentlemen of the class of '99: If I could offer you only one tip for the future, sunscreen would be it.")
	want := "d31a8d34648e60db7b86afbc53ef7ec2a4aded51296e08fea9e2b5a736ee62d63dbea45e8ca9671282fafb69da92728b1a71de0a9e060b2905d6a5b67ecd3b3692ddbd7f2d778b8c9803aee328091b58fab324e4fad675945585808b4831d7bc3ff4def08e4b7a9de576d26586cec64b61161ae10b594f09e26a7e902ecbd0600691"
	sealed := aead.Seal(key, nonce, with, b)
	if hex.EncodeToString(sealed) != want {
		t.Errorf("%x, want %s", sealed, want)
	}
	if got, e := aead.Open(key, nonce, with, bytesOf(t, want)); !bytes.Equal(got, b) || e != api.OK {
		t.Errorf("%q, error %d", got, e)
	}
}

// P7.1: RFC 8439's example of opening.
func TestKnownOpen(t *testing.T) {
	key := [32]byte(bytesOf(t, "1c9240a5eb55d38af333888604f6b5f0473917c1402b80099dca5cbc207075c0"))
	nonce := [12]byte(bytesOf(t, "000000000102030405060708"))
	with := bytesOf(t, "f33388860000000000004e91")
	sealed := bytesOf(t, "64a0861575861af460f062c79be643bd5e805cfd345cf389f108670ac76c8cb24c6cfc18755d43eea09ee94e382d26b0bdb7b73c321b0100d4f03b7f355894cf332f830e710b97ce98c8a84abd0b948114ad176e008d33bd60f982b1ff37c8559797a06ef4f0ef61c186324e2b3506383606907b6a7c02b0f9f6157b53c867e4b9166c767b804d46a59b5216cde7a4e99040c5a40433225ee282a1b0a06c523eaf4534d7f83fa1155b0047718cbc546a0d072b04b3564eea1b422273f548271a0bb2316053fa76991955ebd63159434ecebb4e466dae5a1073a6727627097a1049e617d91d361094fa68f0ff77987130305beaba2eda04df997b714d6c6f2c29a6ad5cb4022b02709beead9d67890cbb22392336fea1851f38")
	want := "Internet-Drafts are draft documents valid for a maximum of six months and may be updated, replaced, or obsoleted by other documents at any time. It is inappropriate to use Internet-Drafts as reference material or to cite them other than as /\u201cwork in progress./\u201d"
	if got, e := aead.Open(key, nonce, with, sealed); string(got) != want || e != api.OK {
		t.Errorf("%q, error %d", got, e)
	}
	if got := aead.Seal(key, nonce, with, []byte(want)); !bytes.Equal(got, sealed) {
		t.Errorf("%x, want %x", got, sealed)
	}
}

// P7.1: Seal, of all lengths about the edges of sixteen bytes, and of blocks.
func TestSealLengths(t *testing.T) {
	key, nonce := keyOf(3), nonceOf(0x80)
	for _, n := range someLengths {
		for _, m := range someLengths {
			with, b := text(7, n), text(0x90, m)
			got := aead.Seal(key, nonce, with, b)
			if want := reference(key, nonce, with, b); !bytes.Equal(got, want) {
				t.Errorf("%d bytes with %d: %x, want %x", m, n, got, want)
			}
		}
	}
}

// P7.1: sixteen bytes more are sealed; of no bytes sixteen, nil or empty.
func TestOver(t *testing.T) {
	if aead.Over != 16 {
		t.Errorf("Over = %d", aead.Over)
	}
	for n := range 70 {
		if got := len(aead.Seal(keyOf(1), nonceOf(2), nil, text(3, n))); got != n+16 {
			t.Errorf("of %d bytes %d are sealed", n, got)
		}
	}
	want := reference(keyOf(1), nonceOf(2), nil, nil)
	for _, with := range [][]byte{nil, {}} {
		for _, b := range [][]byte{nil, {}} {
			sealed := aead.Seal(keyOf(1), nonceOf(2), with, b)
			if !bytes.Equal(sealed, want) {
				t.Errorf("of no bytes: %x, want %x", sealed, want)
			}
			if got, e := aead.Open(keyOf(1), nonceOf(2), with, sealed); len(got) != 0 || e != api.OK {
				t.Errorf("of no bytes: %x, error %d", got, e)
			}
		}
	}
}

// P7.1: fewer than sixteen bytes aren't sealed ones, whatever they are.
func TestTooShort(t *testing.T) {
	sealed := aead.Seal(keyOf(1), nonceOf(2), []byte("with"), []byte("hello"))
	refused(t, "nil", api.ErrDecode, keyOf(1), nonceOf(2), []byte("with"), nil)
	for n := range 16 {
		refused(t, "ahead", api.ErrDecode, keyOf(1), nonceOf(2), []byte("with"), sealed[:n])
		refused(t, "behind", api.ErrDecode, keyOf(1), nonceOf(2), []byte("with"), sealed[len(sealed)-n:])
		refused(t, "noughts", api.ErrDecode, keyOf(1), nonceOf(2), nil, make([]byte, n))
	}
	refused(t, "sixteen noughts", api.ErrAuth, keyOf(1), nonceOf(2), nil, make([]byte, 16))
}

// P7.1: with any one bit changed, of what is sealed, of the bytes with it, of the key or of the nonce, nothing is opened.
func TestEachBitChanged(t *testing.T) {
	key, nonce, with := keyOf(5), nonceOf(6), text(8, 19)
	for _, n := range []int{0, 1, 16, 37} {
		sealed := aead.Seal(key, nonce, with, text(9, n))
		for at := range 8 * len(sealed) {
			other := slices.Clone(sealed)
			other[at/8] ^= 1 << (at % 8)
			refused(t, "sealed", api.ErrAuth, key, nonce, with, other)
		}
		for at := range 8 * len(with) {
			other := slices.Clone(with)
			other[at/8] ^= 1 << (at % 8)
			refused(t, "with", api.ErrAuth, key, nonce, other, sealed)
		}
		for at := range 8 * len(key) {
			other := key
			other[at/8] ^= 1 << (at % 8)
			refused(t, "key", api.ErrAuth, other, nonce, with, sealed)
		}
		for at := range 8 * len(nonce) {
			other := nonce
			other[at/8] ^= 1 << (at % 8)
			refused(t, "nonce", api.ErrAuth, key, other, with, sealed)
		}
	}
}

// P7.1: with bytes left out, or more of them, nothing is opened.
func TestLengthChanged(t *testing.T) {
	key, nonce, with := keyOf(5), nonceOf(6), text(8, 20)
	sealed := aead.Seal(key, nonce, with, text(9, 40))
	for n := 16; n < len(sealed); n++ {
		refused(t, "fewer ahead", api.ErrAuth, key, nonce, with, sealed[:n])
		refused(t, "fewer behind", api.ErrAuth, key, nonce, with, sealed[len(sealed)-n:])
	}
	for n := range len(with) {
		refused(t, "fewer with", api.ErrAuth, key, nonce, with[:n], sealed)
	}
	for n := 1; n < 40; n++ {
		noughts := make([]byte, n)
		refused(t, "more", api.ErrAuth, key, nonce, with, slices.Concat(sealed, noughts))
		refused(t, "more ahead of the tag", api.ErrAuth, key, nonce, with, slices.Concat(sealed[:40], noughts, sealed[40:]))
		refused(t, "more with", api.ErrAuth, key, nonce, slices.Concat(with, noughts), sealed)
	}
}

// P7.1: bytes that go over from the ones with to the hidden ones, or back, are told apart, though the text of both is the same.
func TestBytesGoOver(t *testing.T) {
	key, nonce := keyOf(5), nonceOf(6)
	sealed := aead.Seal(key, nonce, text(8, 32), text(9, 32))
	hidden, tag := sealed[:32], sealed[32:]
	both := slices.Concat(text(8, 32), hidden)
	for n := range len(both) + 1 {
		if n != 32 {
			refused(t, "gone over", api.ErrAuth, key, nonce, both[:n], slices.Concat(both[n:], tag))
		}
	}
}

// P7.2: what is sealed is opened again.
func TestOpened(t *testing.T) {
	for _, n := range someLengths {
		for _, m := range someLengths {
			key, nonce, with, b := keyOf(byte(n)), nonceOf(byte(m)), text(1, n), text(2, m)
			if got, e := aead.Open(key, nonce, with, aead.Seal(key, nonce, with, b)); !bytes.Equal(got, b) || e != api.OK {
				t.Errorf("%d bytes with %d: %x, error %d", m, n, got, e)
			}
		}
	}
	for _, b := range [][]byte{make([]byte, 100), bytes.Repeat([]byte{0xff}, 100), text(0, 100_000)} {
		if got, e := aead.Open([32]byte{}, [12]byte{}, b, aead.Seal([32]byte{}, [12]byte{}, b, b)); !bytes.Equal(got, b) || e != api.OK {
			t.Errorf("%d bytes: %d, error %d", len(b), len(got), e)
		}
	}
}

// P7.3: bytes that are handed in aren't changed, their spare room neither, whether they are opened or refused.
func TestUnchanged(t *testing.T) {
	key, nonce := keyOf(1), nonceOf(2)
	for _, n := range someLengths {
		with, changedWith := roomy(text(3, n))
		b, changedB := roomy(text(4, n))
		sealed, changedSealed := roomy(aead.Seal(key, nonce, with, b))
		aead.Open(key, nonce, with, sealed)
		aead.Open(key, nonce, b, sealed)
		aead.Open(key, nonce, with, sealed[:15])
		if changedWith() || changedB() || changedSealed() {
			t.Errorf("%d bytes were changed", n)
		}
	}
}

// P7.3: answers are new memory: writing into one changes neither an argument nor another answer.
func TestNewMemory(t *testing.T) {
	key, nonce := keyOf(1), nonceOf(2)
	for _, n := range []int{0, 1, 16, 48, 64, 65} {
		with, changedWith := roomy(text(3, n))
		b, changedB := roomy(text(4, n))
		first, second := aead.Seal(key, nonce, with, b), aead.Seal(key, nonce, with, b)
		sealed, changedSealed := roomy(second)
		opened, _ := aead.Open(key, nonce, with, sealed)
		again, _ := aead.Open(key, nonce, with, sealed)
		spoil(first)
		spoil(opened)
		if changedWith() || changedB() || changedSealed() || !bytes.Equal(second, sealed) || !bytes.Equal(again, b) {
			t.Errorf("%d bytes: an answer shares memory", n)
		}
	}
}

// spoil writes over bytes, and behind them.
func spoil(b []byte) {
	for i := range b {
		b[i] ^= 0x55
	}
	_ = append(b, 1, 2, 3)
}

// P7.3: what was handed in isn't kept: an answer stays as it is when the arguments change.
func TestNotKept(t *testing.T) {
	key, nonce, with, b := keyOf(1), nonceOf(2), text(3, 30), text(4, 30)
	sealed := aead.Seal(key, nonce, with, b)
	was := slices.Clone(sealed)
	opened, _ := aead.Open(key, nonce, with, sealed)
	spoil(b)
	if !bytes.Equal(sealed, was) {
		t.Error("what is sealed hangs on what was handed in")
	}
	spoil(sealed)
	if !bytes.Equal(opened, text(4, 30)) {
		t.Error("what is opened hangs on what was handed in")
	}
	refused(t, "spoilt", api.ErrAuth, key, nonce, with, sealed)
	if got := aead.Seal(key, nonce, with, b); !bytes.Equal(got, reference(key, nonce, with, b)) {
		t.Errorf("%x, of what was handed in ahead", got)
	}
}

// P1: every call ends without a panic; Open answers for all bytes.
func TestAllArguments(t *testing.T) {
	lists := [][]byte{nil, {}, {0}, text(1, 15), text(2, 16), text(3, 17), make([]byte, 64), bytes.Repeat([]byte{0xff}, 300)}
	for _, key := range [][32]byte{{}, keyOf(1), keyOf(0xf0)} {
		for _, nonce := range [][12]byte{{}, nonceOf(9)} {
			for _, with := range lists {
				for _, b := range lists {
					aead.Seal(key, nonce, with, b)
					want := api.ErrAuth
					if len(b) < 16 {
						want = api.ErrDecode
					}
					refused(t, "no sealed ones", want, key, nonce, with, b)
				}
			}
		}
	}
}
