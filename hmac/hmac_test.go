package hmac_test

import (
	"bytes"
	stdhmac "crypto/hmac"
	"crypto/sha256"
	"encoding/hex"
	"slices"
	"testing"

	"casket/hmac"
)

// roomy: b with spare room behind it, and a look whether any of it was changed.
func roomy(b []byte) ([]byte, func() bool) {
	whole := append(slices.Clone(b), bytes.Repeat([]byte{0xee}, 80)...)
	was := slices.Clone(whole)
	return whole[:len(b)], func() bool { return !bytes.Equal(whole, was) }
}

// counted: so many bytes, from first on, each 7 more than the one ahead.
func counted(first byte, n int) []byte {
	out := make([]byte, n)
	for i := range out {
		out[i] = first + byte(7*i)
	}
	return out
}

// reference: the library's answer for the same.
func reference(key, message []byte) [32]byte {
	h := stdhmac.New(sha256.New, key)
	h.Write(message)
	return [32]byte(h.Sum(nil))
}

// P3.1: the examples of RFC 4231.
func TestKnown(t *testing.T) {
	for i, c := range []struct {
		key, message []byte
		digest       string
	}{
		{bytes.Repeat([]byte{0x0b}, 20), []byte("Hi There"), "b0344c61d8db38535ca8afceaf0bf12b881dc200c9833da726e9376c2e32cff7"},
		{[]byte("Jefe"), []byte("what do ya want for nothing?"), "5bdcc146bf60754e6a042426089575c75a003f089d2739839dec58b964ec3843"},
		{bytes.Repeat([]byte{0xaa}, 20), bytes.Repeat([]byte{0xdd}, 50), "773ea91e36800e46854db8ebd09181a72959098b3ef8c122d9635514ced565fe"},
		{bytes.Repeat([]byte{0xaa}, 131), []byte("Test Using Larger Than Block-Size Key - Hash Key First"), "60e431591ee0b67f0d8a26aacbf5b77f8e0bc6213728c5140546040f0ee37f54"},
	} {
		d := hmac.Sum(c.key, c.message)
		if got := hex.EncodeToString(d[:]); got != c.digest {
			t.Errorf("%d: %s, want %s", i, got, c.digest)
		}
	}
}

// P3.1: keys of all lengths about that of the block, each with some messages.
func TestKeyLengths(t *testing.T) {
	for n := range 140 {
		key := counted(1, n)
		for _, m := range []int{0, 1, 31, 55, 56, 64, 200} {
			message := counted(9, m)
			if got, want := hmac.Sum(key, message), reference(key, message); got != want {
				t.Errorf("a key of %d bytes, a message of %d: %x, want %x", n, m, got, want)
			}
		}
	}
	key := counted(1, 5000)
	if got, want := hmac.Sum(key, key), reference(key, key); got != want {
		t.Errorf("a key of 5000 bytes: %x, want %x", got, want)
	}
}

// P3.1: a key of 65 bytes is its digest, one of 64 is itself, one with noughts behind is the same.
func TestKeyBlock(t *testing.T) {
	long, message := counted(1, 65), []byte("m")
	digest := sha256.Sum256(long)
	if hmac.Sum(long, message) != hmac.Sum(digest[:], message) {
		t.Error("a key of 65 bytes isn't as its digest")
	}
	digest = sha256.Sum256(long[:64])
	if hmac.Sum(long[:64], message) == hmac.Sum(digest[:], message) {
		t.Error("a key of 64 bytes is as its digest")
	}
	if hmac.Sum(long[:20], message) != hmac.Sum(append(slices.Clone(long[:20]), make([]byte, 44)...), message) {
		t.Error("noughts behind a key tell something")
	}
	if hmac.Sum(long[:20], message) == hmac.Sum(append(make([]byte, 44), long[:20]...), message) {
		t.Error("noughts ahead of a key tell nothing")
	}
}

// P3.1: no key, no parts.
func TestNone(t *testing.T) {
	want := reference(nil, nil)
	for i, parts := range [][][]byte{nil, {}, {nil}, {{}}, {nil, {}, nil}} {
		if got := hmac.Sum(nil, parts...); got != want {
			t.Errorf("%d: nil key: %x, want %x", i, got, want)
		}
		if got := hmac.Sum([]byte{}, parts...); got != want {
			t.Errorf("%d: empty key: %x, want %x", i, got, want)
		}
	}
}

// P3.1: parts are as the bytes one behind the other.
func TestParts(t *testing.T) {
	key, all := counted(3, 32), counted(5, 150)
	want := reference(key, all)
	for cut := range len(all) + 1 {
		if got := hmac.Sum(key, all[:cut], nil, all[cut:]); got != want {
			t.Errorf("cut at %d: %x, want %x", cut, got, want)
		}
	}
	for size := 1; size <= 70; size++ {
		if got := hmac.Sum(key, slices.Collect(slices.Chunk(all, size))...); got != want {
			t.Errorf("parts of %d bytes: %x, want %x", size, got, want)
		}
	}
	if hmac.Sum([]byte("a"), []byte("b")) == hmac.Sum([]byte("b"), []byte("a")) {
		t.Error("key and message are one")
	}
}

// P3.1: each answer hangs on what was handed in alone, not on what was ahead of it.
func TestAgain(t *testing.T) {
	want := reference([]byte("k"), []byte("m"))
	for n := range 130 {
		hmac.Sum(counted(1, n), counted(2, n))
		if got := hmac.Sum([]byte("k"), []byte("m")); got != want {
			t.Errorf("behind %d bytes: %x, want %x", n, got, want)
		}
	}
}

// P3.2: key and parts aren't changed, their spare room neither.
func TestUnchanged(t *testing.T) {
	for _, n := range []int{0, 1, 20, 32, 63, 64, 65, 100} {
		key, changedKey := roomy(counted(1, n))
		part, changedPart := roomy(counted(2, n))
		hmac.Sum(key)
		hmac.Sum(key, part)
		hmac.Sum(key, part, nil, key)
		if changedKey() || changedPart() {
			t.Errorf("%d bytes were changed", n)
		}
	}
}

// P3.2: the list of the parts isn't changed, its spare room neither.
func TestListUnchanged(t *testing.T) {
	list := [][]byte{[]byte("a"), nil, []byte("bc"), []byte("spare"), []byte("more")}
	hmac.Sum([]byte("key"), list[:3]...)
	for i, want := range []string{"a", "", "bc", "spare", "more"} {
		if string(list[i]) != want {
			t.Errorf("item %d was changed: %q", i, list[i])
		}
	}
}

// P3.2: what is handed in isn't kept: later answers are of what it is then, earlier ones stay.
func TestNotKept(t *testing.T) {
	key, part := []byte("key"), []byte("part")
	first := hmac.Sum(key, part)
	was := first
	key[0], part[0] = 'x', 'y'
	if second := hmac.Sum(key, part); first != was || second != reference([]byte("xey"), []byte("yart")) {
		t.Errorf("%x, %x", first, second)
	}
}

// P1: Sum ends without a panic, at arguments of all kinds.
func TestAllArguments(t *testing.T) {
	for _, key := range [][]byte{nil, {}, {0}, make([]byte, 64), make([]byte, 65), make([]byte, 1<<20)} {
		hmac.Sum(key)
		hmac.Sum(key, nil)
		hmac.Sum(key, key, nil, key)
		hmac.Sum(key, make([][]byte, 10000)...)
	}
}
