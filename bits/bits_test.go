package bits_test

import (
	"bytes"
	"encoding/binary"
	"math"
	mathbits "math/bits"
	"slices"
	"testing"

	"casket/bits"
)

var someWords = []uint64{0, 1, 2, 0x7f, 0x80, 0xff, 0x100, 258, 0x0102030405060708, 0x80000000, 0x80000001, 0xffffffff, 0x100000000, 0x8000000000000000, 0xfedcba9876543210, math.MaxUint64}

var someSizes = []int{math.MinInt, -9, -1, 0, 1, 2, 3, 4, 5, 7, 8, 9, 10, 16, 63, 64, 65, 1000, math.MaxInt}

// roomy: b with spare room behind it, and a look whether any of it was changed.
func roomy(b []byte) ([]byte, func() bool) {
	whole := append(slices.Clone(b), bytes.Repeat([]byte{0xee}, 80)...)
	was := slices.Clone(whole)
	return whole[:len(b)], func() bool { return !bytes.Equal(whole, was) }
}

// counted: so many bytes, each unlike its neighbours, many with the highest bit set.
func counted(n int) []byte {
	out := make([]byte, n)
	for i := range out {
		out[i] = byte(0xf0 + 37*i)
	}
	return out
}

// P1.1: Left, at all counts.
func TestLeft(t *testing.T) {
	counts := []int{math.MinInt, math.MinInt + 1, math.MinInt + 31, math.MaxInt, math.MaxInt - 31, 1 << 32, -1 << 32, 1<<32 + 1}
	for n := -100; n <= 100; n++ {
		counts = append(counts, n)
	}
	for _, x := range someWords {
		w := uint32(x)
		for _, n := range counts {
			if got, want := bits.Left(w, n), mathbits.RotateLeft32(w, n&31); got != want {
				t.Errorf("Left(%x, %d) = %x, want %x", w, n, got, want)
			}
		}
	}
	if got := bits.Left(0x80000000, 1); got != 1 {
		t.Errorf("Left(80000000, 1) = %x", got)
	}
	if got := bits.Left(1, -1); got != 0x80000000 {
		t.Errorf("Left(1, -1) = %x", got)
	}
}

// P1.1: words are read of just four, and of just eight, bytes.
func TestRead(t *testing.T) {
	for n := range 70 {
		b := counted(n)
		low32, isLow32 := bits.Low32(b)
		high32, isHigh32 := bits.High32(b)
		low64, isLow64 := bits.Low64(b)
		high64, isHigh64 := bits.High64(b)
		if isLow32 != (n == 4) || isHigh32 != (n == 4) || isLow64 != (n == 8) || isHigh64 != (n == 8) {
			t.Errorf("%d bytes: %v %v %v %v", n, isLow32, isHigh32, isLow64, isHigh64)
		}
		if n != 4 && (low32 != 0 || high32 != 0) || n != 8 && (low64 != 0 || high64 != 0) {
			t.Errorf("%d bytes: beside false %x %x %x %x", n, low32, high32, low64, high64)
		}
		if n == 4 && (low32 != binary.LittleEndian.Uint32(b) || high32 != binary.BigEndian.Uint32(b)) {
			t.Errorf("four bytes: %x %x", low32, high32)
		}
		if n == 8 && (low64 != binary.LittleEndian.Uint64(b) || high64 != binary.BigEndian.Uint64(b)) {
			t.Errorf("eight bytes: %x %x", low64, high64)
		}
	}
}

// P1.1: nil bytes are as empty ones.
func TestReadNil(t *testing.T) {
	if x, ok := bits.Low32(nil); x != 0 || ok {
		t.Error("Low32", x, ok)
	}
	if x, ok := bits.High32(nil); x != 0 || ok {
		t.Error("High32", x, ok)
	}
	if x, ok := bits.Low64(nil); x != 0 || ok {
		t.Error("Low64", x, ok)
	}
	if x, ok := bits.High64(nil); x != 0 || ok {
		t.Error("High64", x, ok)
	}
}

// P1.1: of each size as many bytes of the word as asked for, at most 64; noughts for what is above.
func TestPut(t *testing.T) {
	for _, x := range someWords {
		for _, size := range someSizes {
			count := min(max(size, 0), 64)
			low := make([]byte, count)
			for i := range min(count, 8) {
				low[i] = byte(x >> (8 * uint(i)))
			}
			high := slices.Clone(low)
			slices.Reverse(high)
			if got := bits.PutLow(x, size); !bytes.Equal(got, low) {
				t.Errorf("PutLow(%x, %d) = %x, want %x", x, size, got, low)
			}
			if got := bits.PutHigh(x, size); !bytes.Equal(got, high) {
				t.Errorf("PutHigh(%x, %d) = %x, want %x", x, size, got, high)
			}
		}
	}
	if got := bits.PutHigh(258, 3); !bytes.Equal(got, []byte{0, 1, 2}) {
		t.Errorf("PutHigh(258, 3) = %x", got)
	}
	if got := bits.PutHigh(258, 10); !bytes.Equal(got, []byte{0, 0, 0, 0, 0, 0, 0, 0, 1, 2}) {
		t.Errorf("PutHigh(258, 10) = %x", got)
	}
	if got := bits.PutLow(258, 10); !bytes.Equal(got, []byte{2, 1, 0, 0, 0, 0, 0, 0, 0, 0}) {
		t.Errorf("PutLow(258, 10) = %x", got)
	}
}

// P1.1: Byte and Word, at their edges.
func TestNarrow(t *testing.T) {
	for _, n := range []int{math.MinInt, math.MinInt + 1, -1 << 32, -256, -255, -1, 0, 1, 127, 128, 254, 255, 256, 257, 511, 512, 1<<16 + 5, 1<<31 - 1, 1 << 31, 1<<32 - 1, 1 << 32, 1<<32 + 1, 1<<40 + 7, math.MaxInt - 1, math.MaxInt} {
		b, isByte := bits.Byte(n)
		if isByte != (n >= 0 && n <= 255) || isByte && int(b) != n || !isByte && b != 0 {
			t.Errorf("Byte(%d) = %d, %v", n, b, isByte)
		}
		w, isWord := bits.Word(n)
		if isWord != (n >= 0 && n <= 1<<32-1) || isWord && int(w) != n || !isWord && w != 0 {
			t.Errorf("Word(%d) = %d, %v", n, w, isWord)
		}
	}
}

// P1.1: Int, at its edges.
func TestInt(t *testing.T) {
	for _, x := range []uint64{0, 1, 255, 1<<32 - 1, 1 << 32, 1<<63 - 2, 1<<63 - 1} {
		if n, ok := bits.Int(x); n < 0 || uint64(n) != x || !ok {
			t.Errorf("Int(%x) = %d, %v", x, n, ok)
		}
	}
	for _, x := range []uint64{1 << 63, 1<<63 + 1, 1<<63 + 1<<40, math.MaxUint64 - 1, math.MaxUint64} {
		if n, ok := bits.Int(x); n != 0 || ok {
			t.Errorf("Int(%x) = %d, %v", x, n, ok)
		}
	}
}

// P1.1: Same, with each single bit unlike, with each length unlike.
func TestSame(t *testing.T) {
	if !bits.Same(nil, nil) || !bits.Same(nil, []byte{}) || !bits.Same([]byte{}, nil) {
		t.Error("none and none")
	}
	for n := range 40 {
		b := counted(n)
		if !bits.Same(b, b) || !bits.Same(b, slices.Clone(b)) {
			t.Errorf("%d bytes", n)
		}
		for m := range n {
			if bits.Same(b, b[:m]) || bits.Same(b[:m], b) {
				t.Errorf("%d bytes, and %d", n, m)
			}
		}
		if longer := append(slices.Clone(b), 0); bits.Same(b, longer) || bits.Same(longer, b) {
			t.Errorf("%d bytes, and a nought more", n)
		}
		for at := range 8 * n {
			other := slices.Clone(b)
			other[at/8] ^= 1 << (at % 8)
			if bits.Same(b, other) {
				t.Errorf("%d bytes, bit %d unlike", n, at)
			}
		}
	}
}

// P1.1: unlikenesses that cancel each other out, in a sum or by exclusive or, are seen too.
func TestSameManyUnlike(t *testing.T) {
	noughts := make([]byte, 512)
	for _, n := range []int{2, 4, 256, 512} {
		for _, by := range []byte{1, 0x80, 0xff} {
			other := slices.Clone(noughts)
			for i := range n {
				other[i] = by
			}
			if bits.Same(noughts, other) || bits.Same(other, noughts) {
				t.Errorf("%d bytes unlike by %x", n, by)
			}
		}
	}
	if bits.Same([]byte{1, 2}, []byte{2, 1}) || bits.Same([]byte{0, 0xff}, []byte{0xff, 0}) {
		t.Error("of another order")
	}
}

// P1.1: Mix, as long as the shorter one.
func TestMix(t *testing.T) {
	for n := range 20 {
		for m := range 20 {
			a, b := counted(n), bytes.Repeat([]byte{0x5a, 0xff, 0}, m)[:m]
			got := bits.Mix(a, b)
			if len(got) != min(n, m) {
				t.Errorf("Mix of %d and %d bytes: %d", n, m, len(got))
				continue
			}
			for i := range got {
				if got[i] != a[i]^b[i] {
					t.Errorf("Mix of %x and %x = %x", a, b, got)
				}
			}
		}
	}
	if len(bits.Mix(nil, nil)) != 0 || len(bits.Mix(nil, []byte{1})) != 0 || len(bits.Mix([]byte{1}, nil)) != 0 {
		t.Error("Mix with none")
	}
}

// P1.2: what is put is read again.
func TestPutIsRead(t *testing.T) {
	for _, x := range someWords {
		if got, ok := bits.Low64(bits.PutLow(x, 8)); got != x || !ok {
			t.Errorf("Low64 of PutLow(%x, 8) = %x, %v", x, got, ok)
		}
		if got, ok := bits.High64(bits.PutHigh(x, 8)); got != x || !ok {
			t.Errorf("High64 of PutHigh(%x, 8) = %x, %v", x, got, ok)
		}
		if got, ok := bits.Low32(bits.PutLow(x, 4)); got != uint32(x) || !ok {
			t.Errorf("Low32 of PutLow(%x, 4) = %x, %v", x, got, ok)
		}
		if got, ok := bits.High32(bits.PutHigh(x, 4)); got != uint32(x) || !ok {
			t.Errorf("High32 of PutHigh(%x, 4) = %x, %v", x, got, ok)
		}
	}
	for at := range 64 {
		x := uint64(1) << at
		low, _ := bits.Low64(bits.PutLow(x, 8))
		high, _ := bits.High64(bits.PutHigh(x, 8))
		if low != x || high != x {
			t.Errorf("bit %d: %x, %x", at, low, high)
		}
	}
}

// P1.3: bytes that are handed in aren't changed, their spare room neither.
func TestUnchanged(t *testing.T) {
	for _, n := range []int{0, 1, 4, 8, 33} {
		for _, m := range []int{0, 1, 4, 8, 33} {
			a, changedA := roomy(counted(n))
			b, changedB := roomy(bytes.Repeat([]byte{3}, m))
			bits.Low32(a)
			bits.High32(a)
			bits.Low64(a)
			bits.High64(a)
			bits.Same(a, b)
			bits.Mix(a, b)
			if changedA() || changedB() {
				t.Errorf("%d and %d bytes were changed", n, m)
			}
		}
	}
}

// P1.3: answers are new memory: writing into one changes neither an argument nor another answer.
func TestNewMemory(t *testing.T) {
	for _, size := range []int{1, 3, 4, 8, 9, 64, 65} {
		first, second := bits.PutLow(7, size), bits.PutLow(7, size)
		third, fourth := bits.PutHigh(7, size), bits.PutHigh(7, size)
		was := slices.Clone(fourth)
		for i := range first {
			first[i], third[i] = 0xaa, 0xaa
		}
		if second[0] != 7 || !bytes.Equal(fourth, was) || bits.PutLow(7, size)[0] != 7 {
			t.Errorf("size %d: answers share memory", size)
		}
	}
	for _, m := range []int{3, 5, 7} {
		a, changedA := roomy(counted(5))
		b, changedB := roomy(make([]byte, m))
		got := bits.Mix(a, b)
		again := bits.Mix(a, b)
		for i := range got {
			got[i] ^= 0x55
		}
		_ = append(got, 1, 2, 3)
		if changedA() || changedB() || !bytes.Equal(again, a[:len(again)]) {
			t.Errorf("%d bytes: an answer shares memory", m)
		}
	}
}

// P1.3: what was handed in isn't kept: an answer stays as it is when the argument changes.
func TestNotKept(t *testing.T) {
	a, b := counted(6), counted(9)
	got := bits.Mix(a, b)
	was := slices.Clone(got)
	for i := range a {
		a[i], b[i] = 1, 2
	}
	if !bytes.Equal(got, was) {
		t.Error("an answer hangs on what was handed in")
	}
	if got := bits.Mix(a, b); !bytes.Equal(got, bytes.Repeat([]byte{3}, 6)) {
		t.Errorf("Mix = %x, of what was handed in ahead", got)
	}
}

// P1: every call ends without a panic, at arguments of all kinds.
func TestAllArguments(t *testing.T) {
	numbers := append(slices.Clone(someSizes), 255, 256, 1<<32-1, 1<<32, math.MinInt+1, math.MaxInt-1)
	for _, n := range numbers {
		for _, x := range someWords {
			bits.Left(uint32(x), n)
			bits.PutLow(x, n)
			bits.PutHigh(x, n)
			bits.Int(x)
		}
		bits.Byte(n)
		bits.Word(n)
	}
	lists := [][]byte{nil, {}, {0}, counted(3), counted(4), counted(5), counted(8), counted(9), counted(1000)}
	for _, a := range lists {
		bits.Low32(a)
		bits.High32(a)
		bits.Low64(a)
		bits.High64(a)
		for _, b := range lists {
			bits.Same(a, b)
			bits.Mix(a, b)
		}
	}
}
