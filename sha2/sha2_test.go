package sha2_test

import (
	"bytes"
	"crypto/sha256"
	"encoding/hex"
	"slices"
	"strings"
	"testing"

	"casket/sha2"
)

// roomy: b with spare room behind it, and a look whether any of it was changed.
func roomy(b []byte) ([]byte, func() bool) {
	whole := append(slices.Clone(b), bytes.Repeat([]byte{0xee}, 80)...)
	was := slices.Clone(whole)
	return whole[:len(b)], func() bool { return !bytes.Equal(whole, was) }
}

// mixed: so many bytes without a pattern, always the same ones.
func mixed(n int) []byte {
	out, x := make([]byte, n), uint32(12345)
	for i := range out {
		x = x*1664525 + 1013904223
		out[i] = byte(x >> 24)
	}
	return out
}

// P2.1: the digests that FIPS 180-4's examples give.
func TestKnown(t *testing.T) {
	for _, c := range []struct{ message, digest string }{
		{"", "e3b0c44298fc1c149afbf4c8996fb92427ae41e4649b934ca495991b7852b855"},
		{"abc", "ba7816bf8f01cfea414140de5dae2223b00361a396177a9cb410ff61f20015ad"},
		{"abcdbcdecdefdefgefghfghighijhijkijkljklmklmnlmnomnopnopq", "248d6a61d20638b8e5c026930c3e6039a33ce45964ff2167f6ecedd419db06c1"},
		{"abcdefghbcdefghicdefghijdefghijkefghijklfghijklmghijklmnhijklmnoijklmnopjklmnopqklmnopqrlmnopqrsmnopqrstnopqrstu", "cf5b16a778af8380036ce59e7b0492370b249b11e8f07a51afac45037afee9d1"},
		{strings.Repeat("a", 1000000), "cdc76e5c9914fb9281a1c7e284d73e67f1809a48a497200e046d39ccc7112cd0"},
	} {
		d := sha2.Sum([]byte(c.message))
		if got := hex.EncodeToString(d[:]); got != c.digest {
			t.Errorf("Sum of %d bytes = %s, want %s", len(c.message), got, c.digest)
		}
	}
}

// P2.1: of all lengths about the edges of blocks, and of the count's room.
func TestLengths(t *testing.T) {
	all := mixed(70000)
	for n := range 400 {
		if got, want := sha2.Sum(all[:n]), sha256.Sum256(all[:n]); got != want {
			t.Errorf("%d bytes: %x, want %x", n, got, want)
		}
	}
	for _, n := range []int{8191, 8192, 8193, 65535, 65536, 69999, 70000} {
		if got, want := sha2.Sum(all[:n]), sha256.Sum256(all[:n]); got != want {
			t.Errorf("%d bytes: %x, want %x", n, got, want)
		}
	}
}

// P2.1: bytes that are all noughts, all ones, and a single bit anywhere.
func TestPlainBytes(t *testing.T) {
	for _, fill := range []byte{0, 0xff, 0x80} {
		b := bytes.Repeat([]byte{fill}, 200)
		for _, n := range []int{1, 55, 56, 63, 64, 119, 120, 200} {
			if got, want := sha2.Sum(b[:n]), sha256.Sum256(b[:n]); got != want {
				t.Errorf("%d bytes %x: %x, want %x", n, fill, got, want)
			}
		}
	}
	for at := range 512 {
		b := make([]byte, 64)
		b[at/8] = 1 << (at % 8)
		if got, want := sha2.Sum(b), sha256.Sum256(b); got != want {
			t.Errorf("bit %d: %x, want %x", at, got, want)
		}
	}
}

// P2.1: no parts, empty parts and nil parts are as no bytes.
func TestNoBytes(t *testing.T) {
	want := sha256.Sum256(nil)
	for i, parts := range [][][]byte{nil, {}, {nil}, {{}}, {nil, {}, nil}} {
		if got := sha2.Sum(parts...); got != want {
			t.Errorf("%d: %x, want %x", i, got, want)
		}
	}
}

// P2.1: parts are as the bytes one behind the other, however they are parted.
func TestParts(t *testing.T) {
	all := mixed(200)
	want := sha256.Sum256(all)
	for cut := range len(all) + 1 {
		if got := sha2.Sum(all[:cut], all[cut:]); got != want {
			t.Errorf("cut at %d: %x, want %x", cut, got, want)
		}
		if got := sha2.Sum(nil, all[:cut], []byte{}, all[cut:], nil); got != want {
			t.Errorf("cut at %d, with empty parts: %x, want %x", cut, got, want)
		}
	}
	for size := 1; size <= 130; size++ {
		if got := sha2.Sum(slices.Collect(slices.Chunk(all, size))...); got != want {
			t.Errorf("parts of %d bytes: %x, want %x", size, got, want)
		}
	}
	if sha2.Sum([]byte("a"), []byte("b")) == sha2.Sum([]byte("b"), []byte("a")) {
		t.Error("the parts' order")
	}
}

// P2.1: the count of bits stands in 8 bytes, also where 4 aren't enough.
func TestLongCount(t *testing.T) {
	if testing.Short() {
		t.Skip("half a gigabyte to go through")
	}
	megabyte := mixed(1 << 20)
	parts := slices.Repeat([][]byte{megabyte}, 512)
	parts = append(parts, []byte("abc"))
	h := sha256.New()
	for _, p := range parts {
		h.Write(p)
	}
	if got := sha2.Sum(parts...); !bytes.Equal(got[:], h.Sum(nil)) {
		t.Errorf("2^29 bytes and 3: %x, want %x", got, h.Sum(nil))
	}
}

// P2.1: each answer hangs on what was handed in alone, not on what was ahead of it.
func TestAgain(t *testing.T) {
	want := sha256.Sum256([]byte("abc"))
	for n := range 130 {
		sha2.Sum(mixed(n))
		if got := sha2.Sum([]byte("abc")); got != want {
			t.Errorf("behind %d bytes: %x, want %x", n, got, want)
		}
	}
}

// P2.2: bytes that are handed in aren't changed, their spare room neither.
func TestUnchanged(t *testing.T) {
	for _, n := range []int{0, 1, 54, 55, 56, 63, 64, 65, 128, 150} {
		a, changedA := roomy(mixed(n))
		b, changedB := roomy(mixed(n + 3))
		sha2.Sum(a)
		sha2.Sum(a, b)
		sha2.Sum(b, nil, a)
		if changedA() || changedB() {
			t.Errorf("%d bytes were changed", n)
		}
	}
}

// P2.2: the list of the parts isn't changed, its spare room neither.
func TestListUnchanged(t *testing.T) {
	list := [][]byte{[]byte("a"), nil, []byte("bc"), []byte("spare"), []byte("more")}
	sha2.Sum(list[:3]...)
	for i, want := range []string{"a", "", "bc", "spare", "more"} {
		if string(list[i]) != want {
			t.Errorf("item %d was changed: %q", i, list[i])
		}
	}
}

// P2.2: what is handed in isn't kept: later answers are of what it is then, earlier ones stay.
func TestNotKept(t *testing.T) {
	b := []byte("abc")
	first := sha2.Sum(b)
	was := first
	b[0] = 'x'
	second := sha2.Sum(b)
	if first != was || second != sha256.Sum256([]byte("xbc")) {
		t.Errorf("%x, %x", first, second)
	}
	second[0]++
	if sha2.Sum(b) == second {
		t.Error("an answer was changed by way of another")
	}
}

// P1: Sum ends without a panic, at arguments of all kinds.
func TestAllArguments(t *testing.T) {
	sha2.Sum()
	sha2.Sum(nil)
	sha2.Sum(nil, nil)
	sha2.Sum(make([][]byte, 100000)...)
	sha2.Sum(slices.Repeat([][]byte{{1}}, 100000)...)
	sha2.Sum(make([]byte, 1<<20), nil, []byte{}, []byte{0})
}
