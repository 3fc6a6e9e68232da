package pad_test

import (
	"bytes"
	"encoding/binary"
	"math"
	"slices"
	"testing"

	"casket/api"
	"casket/pad"
)

// edges: how many bytes the classes have room for, and a count's neighbours.
var edges = []int{0, 1, 2, 3, 4, 5, 59, 60, 61, 62, 64, 251, 252, 253, 256, 1019, 1020, 1021, 1024, 3998, 3999, 4000}

// roomy: b with spare room behind it, and a look whether any of it was changed.
func roomy(b []byte) ([]byte, func() bool) {
	whole := append(slices.Clone(b), bytes.Repeat([]byte{0xee}, 80)...)
	was := slices.Clone(whole)
	return whole[:len(b)], func() bool { return !bytes.Equal(whole, was) }
}

// text: so many bytes, each unlike its neighbours.
func text(first byte, n int) []byte {
	out := make([]byte, n)
	for i := range out {
		out[i] = first + byte(37*i+i>>8)
	}
	return out
}

// spoil writes over bytes, and behind them.
func spoil(b []byte) {
	for i := range b {
		b[i] ^= 0x55
	}
	_ = append(b, 1, 2, 3)
}

// laid: a count, these bytes, and noughts behind, up to so many in all.
func laid(count int, b []byte, size int) []byte {
	out := binary.BigEndian.AppendUint32(nil, uint32(count))
	out = append(out, b...)
	return append(out, make([]byte, size-len(out))...)
}

// room: the size and the class of so many bytes, 0 to 4000.
func room(n int) (int, int) {
	switch {
	case n <= 60:
		return 64, 0
	case n <= 252:
		return 256, 1
	case n <= 1020:
		return 1024, 2
	}
	return 4096, 3
}

func padded(t *testing.T, b []byte) []byte {
	t.Helper()
	out, e := pad.Pad(b)
	if e != api.OK {
		t.Fatalf("Pad of %d bytes: error %d", len(b), e)
	}
	return out
}

// refused: these aren't bytes that Pad answers, and nothing is told beside that.
func refused(t *testing.T, what string, b []byte) {
	t.Helper()
	if got, e := pad.Cut(b); len(got) != 0 || e != api.ErrDecode {
		t.Errorf("%s: %d bytes, error %d, want %d", what, len(got), e, api.ErrDecode)
	}
}

// P10.1: the chapter's example.
func TestExample(t *testing.T) {
	if size, class, e := pad.Class(60); size != 64 || class != 0 || e != api.OK {
		t.Error(size, class, e)
	}
	if size, class, e := pad.Class(61); size != 256 || class != 1 || e != api.OK {
		t.Error(size, class, e)
	}
}

// P10.1: the class of each count that has one.
func TestClass(t *testing.T) {
	for n := range 4001 {
		wantSize, wantClass := room(n)
		if size, class, e := pad.Class(n); size != wantSize || class != wantClass || e != api.OK {
			t.Errorf("%d: size %d, class %d, error %d, want %d, %d", n, size, class, e, wantSize, wantClass)
		}
	}
}

// P10.1: counts that have none.
func TestNoClass(t *testing.T) {
	for n, want := range map[int]api.Errno{
		-1: api.ErrArg, -4: api.ErrArg, -60: api.ErrArg, math.MinInt: api.ErrArg, math.MinInt + 3: api.ErrArg,
		4001: api.ErrBig, 4092: api.ErrBig, 4093: api.ErrBig, 4096: api.ErrBig, 1 << 32: api.ErrBig, math.MaxInt - 3: api.ErrBig, math.MaxInt: api.ErrBig,
	} {
		if size, class, e := pad.Class(n); size != 0 || class != 0 || e != want {
			t.Errorf("%d: size %d, class %d, error %d, want %d", n, size, class, e, want)
		}
	}
}

// P10.1: Pad puts the count ahead, and noughts behind.
func TestPad(t *testing.T) {
	for n := range 4001 {
		size, _ := room(n)
		if b := text(byte(n), n); !bytes.Equal(padded(t, b), laid(n, b, size)) {
			t.Errorf("%d bytes: %x", n, padded(t, b))
		}
	}
	for _, none := range [][]byte{nil, {}} {
		if !bytes.Equal(padded(t, none), make([]byte, 64)) {
			t.Errorf("of none: %x", padded(t, none))
		}
	}
}

// P10.1: too many bytes aren't padded.
func TestPadTooMany(t *testing.T) {
	for _, n := range []int{4001, 4002, 4092, 4093, 4096, 1 << 20} {
		if b, e := pad.Pad(text(1, n)); len(b) != 0 || e != api.ErrBig {
			t.Errorf("%d bytes: %d, error %d", n, len(b), e)
		}
	}
}

// P10.2: what is padded is cut again.
func TestCut(t *testing.T) {
	for n := range 4001 {
		b := text(byte(n), n)
		if got, e := pad.Cut(padded(t, b)); !bytes.Equal(got, b) || e != api.OK {
			t.Errorf("%d bytes: %d, error %d", n, len(got), e)
		}
	}
	for _, b := range [][]byte{make([]byte, 1), make([]byte, 60), make([]byte, 61), bytes.Repeat([]byte{0xff}, 252), make([]byte, 4000)} {
		if got, e := pad.Cut(padded(t, b)); !bytes.Equal(got, b) || e != api.OK {
			t.Errorf("%d bytes: %d, error %d", len(b), len(got), e)
		}
	}
}

// P10.1: bytes of another size aren't padded, whatever they are.
func TestCutSizes(t *testing.T) {
	for n := range 4200 {
		if n != 64 && n != 256 && n != 1024 && n != 4096 {
			refused(t, "noughts", make([]byte, n))
		}
	}
	for _, n := range edges {
		b := padded(t, text(7, n))
		refused(t, "one more", append(slices.Clone(b), 0))
		refused(t, "one fewer", b[:len(b)-1])
		refused(t, "without the first", b[1:])
		refused(t, "twice", slices.Concat(b, b))
	}
	refused(t, "nil", nil)
	refused(t, "many", make([]byte, 1<<20))
}

// P10.1: bytes of another class than theirs aren't padded, though all else is right.
func TestCutOtherClass(t *testing.T) {
	for _, n := range edges {
		own, _ := room(n)
		for _, size := range []int{64, 256, 1024, 4096, 16384} {
			if size != own && size >= n+4 {
				refused(t, "a larger class", laid(n, text(7, n), size))
			}
		}
	}
}

// P10.1: a count of more bytes than there are, or than there may be, is none.
func TestCutCount(t *testing.T) {
	for _, size := range []int{64, 256, 1024, 4096} {
		for _, count := range []int{size - 3, size, size + 1, 1 << 16, 1<<31 - 1, 1 << 31, 1<<32 - 1} {
			refused(t, "too large a count", laid(count, text(7, size-4), size))
		}
	}
	for count := 4001; count <= 4092; count++ {
		refused(t, "above the most", laid(count, text(7, count), 4096))
	}
}

// P10.1: behind the bytes stand noughts alone.
func TestCutNoughts(t *testing.T) {
	for _, n := range edges {
		b := padded(t, text(7, n))
		for at := 4 + n; at < len(b); at++ {
			for _, one := range []byte{1, 0x80, 0xff} {
				other := slices.Clone(b)
				other[at] = one
				refused(t, "no nought", other)
			}
		}
	}
}

// P10.2: of what is cut, whatever the bytes are, they are what is padded; else they aren't taken.
func TestCutPadded(t *testing.T) {
	for _, n := range []int{0, 1, 5, 59, 60, 61, 252, 253} {
		b := padded(t, text(7, n))
		for at := range 8 * len(b) {
			other := slices.Clone(b)
			other[at/8] ^= 1 << (at % 8)
			got, e := pad.Cut(other)
			if e == api.OK && !bytes.Equal(padded(t, got), other) {
				t.Errorf("%d bytes, bit %d: cut from what isn't padded of it", n, at)
			}
			if e != api.OK {
				refused(t, "a bit changed", other)
			}
			if at/8 >= 4 && at/8 < 4+n && e != api.OK {
				t.Errorf("%d bytes, bit %d: error %d of another value", n, at, e)
			}
		}
	}
}

// P10.3: bytes that are handed in aren't changed, their spare room neither, whether they are taken or refused.
func TestUnchanged(t *testing.T) {
	for _, n := range append(slices.Clone(edges), 4001) {
		b, changed := roomy(text(3, n))
		pad.Pad(b)
		pad.Cut(b)
		if changed() {
			t.Errorf("%d bytes were changed", n)
		}
		if n > 4000 {
			continue
		}
		whole, changedWhole := roomy(padded(t, b))
		pad.Cut(whole)
		if changedWhole() {
			t.Errorf("%d bytes were changed by Cut", n)
		}
	}
}

// P10.3: answers are new memory, and nothing is kept: writing into one, or into an argument, changes no other.
func TestNewMemory(t *testing.T) {
	for _, n := range edges {
		b, changed := roomy(text(3, n))
		first, second := padded(t, b), padded(t, b)
		was := slices.Clone(second)
		spoil(first)
		if changed() || !bytes.Equal(second, was) {
			t.Errorf("%d bytes: what is padded shares memory", n)
		}
		whole, changedWhole := roomy(second)
		one, _ := pad.Cut(whole)
		other, _ := pad.Cut(whole)
		spoil(one)
		if changedWhole() || !bytes.Equal(other, text(3, n)) {
			t.Errorf("%d bytes: what is cut shares memory", n)
		}
		spoil(b)
		spoil(whole)
		if !bytes.Equal(other, text(3, n)) || !bytes.Equal(padded(t, text(3, n)), was) {
			t.Errorf("%d bytes: what was handed in is kept", n)
		}
	}
}

// P1: every call ends without a panic, and Cut answers for all bytes.
func TestAllArguments(t *testing.T) {
	for n := range 70 {
		for _, one := range []byte{0, 1, 60, 0x7f, 0x80, 0xff} {
			b := bytes.Repeat([]byte{one}, n)
			got, e := pad.Cut(b)
			if e == api.OK && !bytes.Equal(padded(t, got), b) || e != api.OK && (e != api.ErrDecode || len(got) != 0) {
				t.Errorf("%d times %d: %d bytes, error %d", n, one, len(got), e)
			}
		}
	}
	x := uint64(1)
	for range 20000 { // bytes by a short rule, with counts about those that are right
		x = x*6364136223846793005 + 1442695040888963407
		b := make([]byte, []int{4, 63, 64, 65, 256, 1024}[x>>40%6])
		b[2], b[3] = byte(x>>33&3), byte(x>>50)
		b[x>>20%uint64(len(b))] ^= byte(x >> 12 & 1)
		got, e := pad.Cut(b)
		if e == api.OK && !bytes.Equal(padded(t, got), b) || e != api.OK && (e != api.ErrDecode || len(got) != 0) {
			t.Fatalf("%x: %x, error %d", b, got, e)
		}
	}
}
