package crc_test

import (
	"bytes"
	"encoding/binary"
	"hash/crc32"
	"slices"
	"testing"

	"casket/crc"
)

// roomy: b with spare room behind it, and a look whether any of it was changed.
func roomy(b []byte) ([]byte, func() bool) {
	whole := append(slices.Clone(b), bytes.Repeat([]byte{0xee}, 80)...)
	was := slices.Clone(whole)
	return whole[:len(b)], func() bool { return !bytes.Equal(whole, was) }
}

// text: so many bytes, each unlike its neighbours.
func text(first byte, n int) []byte {
	out := make([]byte, n)
	for i := range out {
		out[i] = first + byte(37*i+i>>8)
	}
	return out
}

// spoil writes over bytes, and behind them.
func spoil(b []byte) {
	for i := range b {
		b[i] ^= 0x55
	}
	_ = append(b, 1, 2, 3)
}

// rising: so many bytes from 0 on, each one more.
func rising(n int) []byte {
	out := make([]byte, n)
	for i := range out {
		out[i] = byte(i)
	}
	return out
}

// reference: the check as the chapter tells it, step by step.
func reference(b []byte) uint32 {
	n := ^uint32(0)
	for _, one := range b {
		n = n&^0xff | (n&0xff ^ uint32(one))
		for range 8 {
			fell := n & 1
			n >>= 1
			if fell == 1 {
				n ^= 0x82F63B78
			}
		}
	}
	return ^n
}

// opened: b is opened to what is wanted; refused: it isn't opened, and nothing comes beside that.
func opened(t *testing.T, what string, b, want []byte) {
	t.Helper()
	if got, ok := crc.Open(b); !bytes.Equal(got, want) || !ok {
		t.Errorf("%s: %x, %v, want %x", what, got, ok, want)
	}
}

func refused(t *testing.T, what string, b []byte) {
	t.Helper()
	if got, ok := crc.Open(b); len(got) != 0 || ok {
		t.Errorf("%s: %x is opened to %x, %v", what, b, got, ok)
	}
}

// P9.1: published checks (RFC 3720's among them).
func TestKnownChecks(t *testing.T) {
	falling := rising(32)
	slices.Reverse(falling)
	for _, one := range []struct {
		b    []byte
		want uint32
	}{
		{nil, 0},
		{[]byte{}, 0},
		{[]byte("123456789"), 0xE3069283},
		{[]byte("a"), 0xC1D04330},
		{make([]byte, 32), 0x8A9136AA},
		{bytes.Repeat([]byte{0xff}, 32), 0x62A8AB43},
		{rising(32), 0x46DD794E},
		{falling, 0x113FDB5C},
	} {
		if got := crc.Check(one.b); got != one.want {
			t.Errorf("Check(%x) = %08X, want %08X", one.b, got, one.want)
		}
	}
}

// P9.1: each single byte, and all lengths, as the chapter tells it, and as the library has it.
func TestCheckLengths(t *testing.T) {
	table := crc32.MakeTable(crc32.Castagnoli)
	look := func(b []byte) {
		t.Helper()
		if got := crc.Check(b); got != reference(b) || got != crc32.Checksum(b, table) {
			t.Errorf("Check of %d bytes = %08X, want %08X", len(b), got, reference(b))
		}
	}
	for one := range 256 {
		look([]byte{byte(one)})
		look([]byte{0, byte(one), 0xff})
	}
	for n := range 300 {
		look(text(byte(n), n))
		look(make([]byte, n))
		look(bytes.Repeat([]byte{0xff}, n))
	}
	look(text(1, 1_000_000))
}

// P9.1: the check stands behind the bytes, its lowest byte first.
func TestClose(t *testing.T) {
	if got := crc.Close([]byte("123456789")); string(got) != "123456789\x83\x92\x06\xe3" {
		t.Errorf("%x", got)
	}
	for _, b := range [][]byte{nil, {}} {
		if got := crc.Close(b); !bytes.Equal(got, make([]byte, 4)) {
			t.Errorf("of no bytes: %x", got)
		}
	}
	for n := range 300 {
		b := text(byte(n), n)
		if got := crc.Close(b); !bytes.Equal(got, binary.LittleEndian.AppendUint32(slices.Clone(b), reference(b))) {
			t.Errorf("of %d bytes: %x", n, got)
		}
	}
}

// P9.1: fewer than four bytes aren't closed ones; four noughts are, of no bytes.
func TestOpenShort(t *testing.T) {
	refused(t, "nil", nil)
	refused(t, "empty", []byte{})
	for n := range 4 {
		refused(t, "noughts", make([]byte, n))
		refused(t, "ones", bytes.Repeat([]byte{0xff}, n))
		refused(t, "of closed ones", crc.Close([]byte("abc"))[:n])
	}
	opened(t, "four noughts", make([]byte, 4), nil)
	refused(t, "four ones", bytes.Repeat([]byte{0xff}, 4))
	refused(t, "five noughts", make([]byte, 5))
}

// P9.1: a check that isn't these bytes' is refused, or one with its highest byte first.
func TestOpenWrong(t *testing.T) {
	for n := range 40 {
		b := text(3, n)
		check := crc.Check(b)
		refused(t, "one more", binary.LittleEndian.AppendUint32(slices.Clone(b), check+1))
		refused(t, "turned", binary.LittleEndian.AppendUint32(slices.Clone(b), ^check))
		if n > 0 {
			refused(t, "the highest first", binary.BigEndian.AppendUint32(slices.Clone(b), check))
			refused(t, "noughts", append(slices.Clone(b), 0, 0, 0, 0))
		}
		refused(t, "more behind", append(crc.Close(b), 0))
	}
}

// P9.2: what is closed is opened again.
func TestOpened(t *testing.T) {
	for n := range 300 {
		opened(t, "some", crc.Close(text(byte(n), n)), text(byte(n), n))
		opened(t, "noughts", crc.Close(make([]byte, n)), make([]byte, n))
		opened(t, "twice", crc.Close(crc.Close(text(byte(n), n))), crc.Close(text(byte(n), n)))
	}
	opened(t, "many", crc.Close(text(1, 1_000_000)), text(1, 1_000_000))
}

// changed: b with those bits turned that a pattern has, from bit at on, in the order in which a check goes through them: each byte's lowest first.
func changed(b []byte, at int, pattern uint32) []byte {
	out := slices.Clone(b)
	for i := range 32 {
		if pattern>>i&1 == 1 {
			out[(at+i)/8] ^= 1 << ((at + i) % 8)
		}
	}
	return out
}

// P9.2: with up to 32 bits, one behind the other, changed nothing is opened, wherever they are: in the bytes, in the check, or across.
func TestChangedBits(t *testing.T) {
	patterns := []uint32{0xffffffff, 0x80000001, 0x55555555, 0xaaaaaaaa, 0x82F63B78, 0x11EDC6F4, 0x05EC76F1, 0x1EDC6F41, 0x0f0f0f0f, 0x80000000, 0xdeadbeef}
	for i := range 32 {
		patterns = append(patterns, 1<<i, 1<<i|1, 1<<i-1, 1<<i|1<<31)
	}
	some := uint32(1)
	for range 300 {
		some = some*1664525 + 1013904223
		patterns = append(patterns, some)
	}
	for _, n := range []int{0, 1, 2, 7, 20} {
		closed := crc.Close(text(9, n))
		for at := range 8*len(closed) - 31 {
			for _, pattern := range patterns {
				if pattern != 0 {
					refused(t, "changed", changed(closed, at, pattern))
				}
			}
		}
	}
}

// P9.2: no run of 32 bits has any change at all that is let through: what single bits of it do to the check and the bytes before it can't cancel out.
func TestNoChangeCancels(t *testing.T) {
	nothing := make([]byte, 12)
	for at := range 8*len(nothing) - 31 {
		var left []uint32 // what the bits so far come to, each with a highest bit of its own
		for i := range 32 {
			closed := changed(nothing, at, 1<<i)
			told := binary.LittleEndian.Uint32(closed[8:])
			does := crc.Check(closed[:8]) ^ crc.Check(nothing[:8]) ^ told
			for _, other := range left {
				does = min(does, does^other)
			}
			if does == 0 {
				t.Errorf("from bit %d on: bit %d cancels out with those ahead of it", at, i)
			}
			left = append(left, does)
		}
	}
}

// P9.2: a single bit changed of many bytes.
func TestEachBitChanged(t *testing.T) {
	closed := crc.Close(text(5, 600))
	for at := range 8 * len(closed) {
		other := slices.Clone(closed)
		other[at/8] ^= 1 << (at % 8)
		refused(t, "one bit", other)
	}
}

// P9.3: bytes that are handed in aren't changed, their spare room neither.
func TestUnchanged(t *testing.T) {
	for n := range 80 {
		b, changedB := roomy(text(7, n))
		closed, changedClosed := roomy(crc.Close(b))
		crc.Check(b)
		crc.Close(b)
		crc.Open(b)
		crc.Open(closed)
		if changedB() || changedClosed() {
			t.Errorf("%d bytes were changed", n)
		}
	}
}

// P9.3: answers are new memory: writing into one, or behind it, changes neither an argument nor another answer.
func TestNewMemory(t *testing.T) {
	for n := range 80 {
		b, changedB := roomy(text(7, n))
		first, second := crc.Close(b), crc.Close(b)
		closed, changedClosed := roomy(second)
		once, _ := crc.Open(closed)
		again, _ := crc.Open(closed)
		spoil(first)
		spoil(once)
		if changedB() || changedClosed() || !bytes.Equal(second, closed) || !bytes.Equal(again, b) {
			t.Errorf("%d bytes: an answer shares memory", n)
		}
	}
}

// P9.3: what was handed in isn't kept: answers stay as they are when it changes, and nothing is told of it later on.
func TestNotKept(t *testing.T) {
	for n := range 80 {
		b := text(7, n)
		closed := crc.Close(b)
		was := slices.Clone(closed)
		spoil(b)
		if !bytes.Equal(closed, was) {
			t.Errorf("%d bytes: what is closed hangs on what was handed in", n)
		}
		got, _ := crc.Open(closed)
		spoil(closed)
		if !bytes.Equal(got, text(7, n)) {
			t.Errorf("%d bytes: what is opened hangs on what was handed in", n)
		}
		if crc.Check(b) != reference(b) {
			t.Errorf("%d bytes: a check hangs on what was handed in ahead", n)
		}
	}
}

// P1: every call ends without a panic; Open answers for all bytes.
func TestAllBytes(t *testing.T) {
	for _, b := range [][]byte{nil, {}, {0}, text(1, 3), text(2, 4), text(3, 5), make([]byte, 64), bytes.Repeat([]byte{0xff}, 300)} {
		crc.Check(b)
		crc.Close(b)
		got, ok := crc.Open(b)
		want := len(b) >= 4 && reference(b[:len(b)-4]) == binary.LittleEndian.Uint32(b[len(b)-4:])
		if ok != want || ok && !bytes.Equal(got, b[:len(b)-4]) || !ok && len(got) != 0 {
			t.Errorf("%x is opened to %x, %v", b, got, ok)
		}
	}
}
