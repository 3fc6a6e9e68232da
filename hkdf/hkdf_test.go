package hkdf_test

import (
	"bytes"
	stdhkdf "crypto/hkdf"
	"crypto/sha256"
	"encoding/hex"
	"math"
	"slices"
	"testing"

	"casket/api"
	"casket/hkdf"
)

// roomy: b with spare room behind it, and a look whether any of it was changed.
func roomy(b []byte) ([]byte, func() bool) {
	whole := append(slices.Clone(b), bytes.Repeat([]byte{0xee}, 80)...)
	was := slices.Clone(whole)
	return whole[:len(b)], func() bool { return !bytes.Equal(whole, was) }
}

// rising: the bytes from first on, so many.
func rising(first byte, n int) []byte {
	out := make([]byte, n)
	for i := range out {
		out[i] = first + byte(i)
	}
	return out
}

// reference: the library's bytes out of a key, so many.
func reference(t *testing.T, key, use []byte, n int) []byte {
	t.Helper()
	out, err := stdhkdf.Expand(sha256.New, key, string(use), n)
	if err != nil {
		t.Fatal(err)
	}
	return out
}

// expand: bytes out of a key, where there is no error.
func expand(t *testing.T, key, use []byte, n int) []byte {
	t.Helper()
	out, e := hkdf.Expand(key, use, n)
	if e != api.OK {
		t.Fatalf("Expand of %d bytes: error %d", n, e)
	}
	return out
}

// P4.1: the examples of RFC 5869.
func TestKnown(t *testing.T) {
	for i, c := range []struct {
		secret, salt, use []byte
		n                 int
		key, out          string
	}{
		{bytes.Repeat([]byte{0x0b}, 22), rising(0, 13), rising(0xf0, 10), 42,
			"077709362c2e32df0ddc3f0dc47bba6390b6c73bb50f9c3122ec844ad7c2b3e5",
			"3cb25f25faacd57a90434f64d0362f2a2d2d0a90cf1a5a4c5db02d56ecc4c5bf34007208d5b887185865"},
		{rising(0, 80), rising(0x60, 80), rising(0xb0, 80), 82,
			"06a6b88c5853361a06104c9ceb35b45cef760014904671014a193f40c15fc244",
			"b11e398dc80327a1c8e7f78c596a49344f012eda2d4efad8a050cc4c19afa97c59045a99cac7827271cb41c65e590e09da3275600c2f09b8367793a9aca3db71cc30c58179ec3e87c14c01d5c1f3434f1d87"},
		{bytes.Repeat([]byte{0x0b}, 22), nil, nil, 42,
			"19ef24a32c717b167f33a91d6f648bdf96596776afdb6377ac434c1c293ccb04",
			"8da4e775a563c18f715f802a063c5a31b8a11f5c5ee1879ec3454e5f3c738d2d9d201395faa4b61a96c8"},
	} {
		key := hkdf.Extract(c.salt, c.secret)
		if got := hex.EncodeToString(key[:]); got != c.key {
			t.Errorf("%d: key %s, want %s", i, got, c.key)
		}
		if got := hex.EncodeToString(expand(t, key[:], c.use, c.n)); got != c.out {
			t.Errorf("%d: %s, want %s", i, got, c.out)
		}
	}
}

// P4.1: Extract, of salts and secrets of many lengths.
func TestExtract(t *testing.T) {
	for _, n := range []int{0, 1, 13, 32, 63, 64, 65, 100} {
		for _, m := range []int{0, 1, 22, 32, 64, 65, 200} {
			salt, secret := rising(1, n), rising(0x80, m)
			want, err := stdhkdf.Extract(sha256.New, secret, salt)
			if err != nil {
				t.Fatal(err)
			}
			if got := hkdf.Extract(salt, secret); !bytes.Equal(got[:], want) {
				t.Errorf("a salt of %d bytes, a secret of %d: %x, want %x", n, m, got, want)
			}
		}
	}
}

// P4.1: no salt is as one of 32 noughts.
func TestNoSalt(t *testing.T) {
	want := hkdf.Extract(make([]byte, 32), []byte("secret"))
	if hkdf.Extract(nil, []byte("secret")) != want || hkdf.Extract([]byte{}, []byte("secret")) != want {
		t.Error("no salt isn't as noughts")
	}
	if hkdf.Extract(rising(1, 32), []byte("secret")) == want {
		t.Error("a salt tells nothing")
	}
}

// P4.1: Expand, of many counts about the edges of digests, and of the most.
func TestExpandCounts(t *testing.T) {
	key, use := rising(7, 32), []byte("use")
	counts := []int{255, 256, 257, 8127, 8128, 8129, 8159, 8160}
	for n := range 200 {
		counts = append(counts, n)
	}
	for _, n := range counts {
		if got, want := expand(t, key, use, n), reference(t, key, use, n); !bytes.Equal(got, want) {
			t.Errorf("%d bytes: %x, want %x", n, got, want)
		}
	}
}

// P4.1: Expand, of keys and uses of many lengths.
func TestExpandLengths(t *testing.T) {
	for _, n := range []int{0, 1, 31, 32, 33, 64, 65, 100} {
		for _, m := range []int{0, 1, 22, 23, 54, 64, 300} {
			key, use := rising(1, n), rising(0x90, m)
			if got, want := expand(t, key, use, 100), reference(t, key, use, 100); !bytes.Equal(got, want) {
				t.Errorf("a key of %d bytes, a use of %d: %x, want %x", n, m, got, want)
			}
		}
	}
	if !bytes.Equal(expand(t, nil, nil, 40), reference(t, nil, nil, 40)) {
		t.Error("no key, no use")
	}
}

// P4.1: other counts are refused, with no bytes beside the error.
func TestExpandRefuses(t *testing.T) {
	if hkdf.Most != 8160 {
		t.Errorf("Most = %d", hkdf.Most)
	}
	for _, n := range []int{math.MinInt, -8160, -256, -32, -1, 8161, 8192, 65536, 1 << 32, 1<<32 + 5, math.MaxInt} {
		if b, e := hkdf.Expand([]byte("key"), []byte("use"), n); len(b) != 0 || e != api.ErrArg {
			t.Errorf("Expand of %d bytes: %d bytes, error %d", n, len(b), e)
		}
	}
	if b, e := hkdf.Expand([]byte("key"), []byte("use"), 0); len(b) != 0 || e != api.OK {
		t.Errorf("Expand of 0 bytes: %d bytes, error %d", len(b), e)
	}
	if b, e := hkdf.Expand(nil, nil, 8160); len(b) != 8160 || e != api.OK {
		t.Errorf("Expand of 8160 bytes: %d bytes, error %d", len(b), e)
	}
}

// P4.2: fewer bytes are the beginning of more.
func TestBeginning(t *testing.T) {
	key, use := []byte("some key"), []byte("some use")
	all := expand(t, key, use, hkdf.Most)
	for n := 0; n <= hkdf.Most; n += 1 + n/40 {
		if got := expand(t, key, use, n); !bytes.Equal(got, all[:n]) {
			t.Errorf("%d bytes aren't the beginning of all", n)
		}
	}
}

// P4.3: what is handed in isn't changed, its spare room neither.
func TestUnchanged(t *testing.T) {
	for _, n := range []int{0, 1, 32, 63, 64, 65, 100} {
		a, changedA := roomy(rising(1, n))
		b, changedB := roomy(rising(9, n))
		hkdf.Extract(a, b)
		expand(t, a, b, 0)
		expand(t, a, b, 5)
		expand(t, a, b, 100)
		hkdf.Expand(a, b, -1)
		if changedA() || changedB() {
			t.Errorf("%d bytes were changed", n)
		}
	}
}

// P4.3: answers are new memory: writing into one changes neither an argument nor another answer.
func TestNewMemory(t *testing.T) {
	key, changedKey := roomy(rising(1, 32))
	use, changedUse := roomy(rising(9, 32))
	for _, n := range []int{1, 32, 64, 100, hkdf.Most} {
		first, second := expand(t, key, use, n), expand(t, key, use, n)
		for i := range first {
			first[i] ^= 0x55
		}
		_ = append(first, make([]byte, 64)...)
		if want := reference(t, key, use, n); !bytes.Equal(second, want) || !bytes.Equal(expand(t, key, use, n), want) {
			t.Errorf("%d bytes: answers share memory", n)
		}
	}
	if changedKey() || changedUse() {
		t.Error("an answer shares memory with an argument")
	}
}

// P4.3: what is handed in isn't kept: later answers are of what it is then, earlier ones stay.
func TestNotKept(t *testing.T) {
	a, b := []byte("one"), []byte("two")
	key, out := hkdf.Extract(a, b), expand(t, a, b, 40)
	wasKey, was := key, slices.Clone(out)
	a[0], b[0] = 'x', 'y'
	if key != wasKey || !bytes.Equal(out, was) {
		t.Error("an answer hangs on what was handed in")
	}
	want, _ := stdhkdf.Extract(sha256.New, []byte("ywo"), []byte("xne"))
	if got := hkdf.Extract(a, b); !bytes.Equal(got[:], want) {
		t.Errorf("Extract = %x, of what was handed in ahead", got)
	}
	if got := expand(t, a, b, 40); !bytes.Equal(got, reference(t, []byte("xne"), []byte("ywo"), 40)) {
		t.Errorf("Expand = %x, of what was handed in ahead", got)
	}
}

// P1: both calls end without a panic, at arguments of all kinds.
func TestAllArguments(t *testing.T) {
	lists := [][]byte{nil, {}, {0}, make([]byte, 64), make([]byte, 65), make([]byte, 100000)}
	for _, a := range lists {
		for _, b := range lists {
			hkdf.Extract(a, b)
			for _, n := range []int{math.MinInt, -1, 0, 1, 33, math.MaxInt} {
				hkdf.Expand(a, b, n)
			}
		}
	}
}
