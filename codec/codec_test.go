package codec_test

import (
	"bytes"
	"encoding/binary"
	"math"
	"slices"
	"testing"

	"casket/api"
	"casket/codec"
)

var someNumbers = []int{math.MinInt, math.MinInt + 1, -1 << 32, -256, -1, 0, 1, 2, 127, 128, 254, 255, 256, 257, 258, 1<<16 + 5, 1<<31 - 1, 1 << 31, 1<<32 - 1, 1 << 32, 1<<32 + 1, 1 << 40, 1 << 62, math.MaxInt - 1, math.MaxInt}

// roomy: b with spare room behind it, and a look whether any of it was changed.
func roomy(b []byte) ([]byte, func() bool) {
	whole := append(slices.Clone(b), bytes.Repeat([]byte{0xee}, 80)...)
	was := slices.Clone(whole)
	return whole[:len(b)], func() bool { return !bytes.Equal(whole, was) }
}

// text: so many bytes, each unlike its neighbours.
func text(first byte, n int) []byte {
	out := make([]byte, n)
	for i := range out {
		out[i] = first + byte(37*i+i>>8)
	}
	return out
}

// spoil writes over bytes, and behind them.
func spoil(b []byte) {
	for i := range b {
		b[i] ^= 0x55
	}
	_ = append(b, 1, 2, 3)
}

// wide: a number's eight bytes; counted: bytes with their count ahead.
func wide(x uint64) []byte { return binary.BigEndian.AppendUint64(nil, x) }

func counted(b []byte) []byte {
	return append(binary.BigEndian.AppendUint32(nil, uint32(len(b))), b...)
}

// done: just these bytes come out, with just this error.
func done(t *testing.T, what string, o *codec.Out, want []byte, wantErr api.Errno) {
	t.Helper()
	if b, e := o.Done(); !bytes.Equal(b, want) || e != wantErr {
		t.Errorf("%s: %x, error %d, want %x, error %d", what, b, e, want, wantErr)
	}
}

// P8.1: the chapter's example, and each call's bytes behind each other.
func TestPut(t *testing.T) {
	done(t, "the example", new(codec.Out).Small(3).Bytes([]byte("ab")), []byte{3, 0, 0, 0, 2, 'a', 'b'}, api.OK)
	o := &codec.Out{}
	o.Num(258)
	o.Fixed([]byte("xyz"))
	o.Small(255)
	o.Bytes(nil)
	o.Num(math.MaxInt)
	o.Fixed(nil)
	o.Bytes([]byte{0})
	done(t, "one by one", o, []byte("\x00\x00\x00\x00\x00\x00\x01\x02xyz\xff\x00\x00\x00\x00\x7f\xff\xff\xff\xff\xff\xff\xff\x00\x00\x00\x01\x00"), api.OK)
}

// P8.1: an Out's zero value has nothing; no bytes are put as none, nil or empty.
func TestPutNothing(t *testing.T) {
	var o codec.Out
	done(t, "zero value", &o, nil, api.OK)
	done(t, "Fixed of none", o.Fixed(nil).Fixed([]byte{}), nil, api.OK)
	done(t, "Bytes of none", o.Bytes(nil).Bytes([]byte{}), make([]byte, 8), api.OK)
}

// P8.1: a number is put in eight bytes, or in one; one outside is put as nothing, and told, beside the bytes.
func TestPutNumbers(t *testing.T) {
	for _, n := range someNumbers {
		if n >= 0 {
			done(t, "Num", new(codec.Out).Num(n), wide(uint64(n)), api.OK)
		} else {
			done(t, "Num below 0", new(codec.Out).Small(1).Num(n).Small(2), []byte{1, 2}, api.ErrArg)
		}
		if n >= 0 && n <= 255 {
			done(t, "Small", new(codec.Out).Small(n), []byte{byte(n)}, api.OK)
		} else {
			done(t, "Small of no byte", new(codec.Out).Small(1).Small(n).Small(2), []byte{1, 2}, api.ErrArg)
		}
	}
	for n := range 256 {
		done(t, "Small", new(codec.Out).Small(n), []byte{byte(n)}, api.OK)
	}
}

// P8.1: the error stays, whatever is put behind it, and as often as it is asked for.
func TestErrorStays(t *testing.T) {
	o := new(codec.Out).Num(-1)
	done(t, "nothing", o, nil, api.ErrArg)
	done(t, "nothing, again", o, nil, api.ErrArg)
	done(t, "more", o.Num(1).Small(2).Fixed([]byte("c")).Bytes(nil), []byte("\x00\x00\x00\x00\x00\x00\x00\x01\x02c\x00\x00\x00\x00"), api.ErrArg)
	o = new(codec.Out).Small(7)
	done(t, "ahead", o, []byte{7}, api.OK)
	done(t, "behind", o.Small(256), []byte{7}, api.ErrArg)
}

// P8.1: the count ahead of bytes is their count, in four bytes.
func TestPutBytes(t *testing.T) {
	for _, n := range []int{0, 1, 2, 3, 4, 5, 255, 256, 257, 65535, 65536, 1<<20 + 1, 1<<24 + 3} {
		b := text(9, n)
		done(t, "Bytes", new(codec.Out).Bytes(b), counted(b), api.OK)
		done(t, "Fixed", new(codec.Out).Fixed(b), b, api.OK)
	}
}

// P8.1: each call answers the Out itself, also one that puts nothing.
func TestItself(t *testing.T) {
	o := &codec.Out{}
	for i, got := range []*codec.Out{o.Num(1), o.Num(-1), o.Small(1), o.Small(256), o.Fixed(nil), o.Fixed([]byte{1}), o.Bytes(nil), o.Bytes([]byte{1})} {
		if got != o {
			t.Errorf("call %d answers another one", i)
		}
	}
}

// P8.1: a nil Out.
func TestNilOut(t *testing.T) {
	var o *codec.Out
	for i, got := range []*codec.Out{o.Num(1), o.Num(-1), o.Small(1), o.Small(256), o.Fixed(nil), o.Fixed([]byte{1}), o.Bytes(nil), o.Bytes([]byte{1})} {
		if got != nil {
			t.Errorf("call %d answers an Out", i)
		}
	}
	done(t, "nil", o, nil, api.ErrArg)
	done(t, "nil, in a row", o.Num(1).Small(2).Fixed([]byte("c")).Bytes([]byte("d")), nil, api.ErrArg)
}

// P8.1: Done ends nothing: more is put behind what was told.
func TestDoneAgain(t *testing.T) {
	o := &codec.Out{}
	var want []byte
	for i := range 300 {
		o.Small(i % 256).Bytes(text(byte(i), i%7))
		want = append(append(want, byte(i)), counted(text(byte(i), i%7))...)
		done(t, "so far", o, want, api.OK)
		done(t, "again", o, want, api.OK)
	}
}

// P8.1: copies of an Out's value go their own ways, however long what they have in common is.
func TestCopies(t *testing.T) {
	for n := range 70 {
		common := text(3, n)
		o := new(codec.Out).Fixed(common)
		first, second := *o, *o
		first.Small(1).Small(2)
		o.Small(3)
		kept := *o
		second.Num(-1).Bytes([]byte("x"))
		o.Small(4)
		other := *o
		*o = kept
		o.Small(5).Small(6)
		done(t, "first", &first, append(slices.Clone(common), 1, 2), api.OK)
		done(t, "second", &second, append(slices.Clone(common), 0, 0, 0, 1, 'x'), api.ErrArg)
		done(t, "kept", &kept, append(slices.Clone(common), 3), api.OK)
		done(t, "other", &other, append(slices.Clone(common), 3, 4), api.OK)
		done(t, "put back", o, append(slices.Clone(common), 3, 5, 6), api.OK)
	}
}

var (
	num, small    = (*codec.In).Num, (*codec.In).Small
	fixed, counts = (*codec.In).Fixed, (*codec.In).Bytes
)

// number, list: what is taken of b by one call, and the error behind it; and that behind an error nothing is taken.
func number(t *testing.T, take func(*codec.In, int) int, b []byte, most, want int, wantErr api.Errno) {
	t.Helper()
	i := codec.Of(b)
	if n := take(i, most); n != want || i.End() != wantErr {
		t.Errorf("of %x, at most %d: %d, error %d, want %d, error %d", b, most, n, i.End(), want, wantErr)
	}
	nothingBehind(t, i)
}

func list(t *testing.T, take func(*codec.In, int) []byte, b []byte, n int, want []byte, wantErr api.Errno) {
	t.Helper()
	i := codec.Of(b)
	if got := take(i, n); !bytes.Equal(got, want) || i.End() != wantErr {
		t.Errorf("of %x, by %d: %x, error %d, want %x, error %d", b, n, got, i.End(), want, wantErr)
	}
	nothingBehind(t, i)
}

// nothingBehind: behind an error all answers are nothing, and the first error stays.
func nothingBehind(t *testing.T, i *codec.In) {
	t.Helper()
	e := i.End()
	if e == api.OK || e == api.ErrTail {
		return
	}
	for range 2 {
		if n, m := i.Num(math.MaxInt), i.Small(255); n != 0 || m != 0 {
			t.Errorf("behind error %d: numbers %d, %d", e, n, m)
		}
		if a, b, c := i.Fixed(0), i.Fixed(1), i.Bytes(math.MaxInt); len(a)+len(b)+len(c) != 0 {
			t.Errorf("behind error %d: %x, %x, %x", e, a, b, c)
		}
		i.Small(-1)
		i.Fixed(math.MaxInt)
		if i.End() != e {
			t.Errorf("behind error %d: error %d", e, i.End())
		}
	}
}

// P8.1: Num takes a number that is at most most; one that is no int is too big, whatever most is.
func TestTakeNum(t *testing.T) {
	for _, n := range someNumbers {
		if n < 0 {
			number(t, num, wide(uint64(n)), math.MaxInt, 0, api.ErrBig)
			number(t, num, wide(uint64(n)), n, 0, api.ErrBig)
			number(t, num, wide(0), n, 0, api.ErrBig)
			continue
		}
		number(t, num, wide(uint64(n)), n, n, api.OK)
		number(t, num, wide(uint64(n)), math.MaxInt, n, api.OK)
		number(t, num, wide(uint64(n)), n-1, 0, api.ErrBig)
		number(t, num, append(wide(uint64(n)), 0), n, n, api.ErrTail)
		number(t, num, append(wide(uint64(n)), 0), n-1, 0, api.ErrBig)
	}
	for _, x := range []uint64{1 << 63, 1<<63 + 1, 1<<63 + 5, math.MaxUint64} {
		for _, most := range []int{-1, 0, 5, math.MaxInt} {
			number(t, num, wide(x), most, 0, api.ErrBig)
		}
	}
}

// P8.1: Small, each byte against each bound about it.
func TestTakeSmall(t *testing.T) {
	for n := range 256 {
		number(t, small, []byte{byte(n)}, n, n, api.OK)
		number(t, small, []byte{byte(n)}, n+1, n, api.OK)
		number(t, small, []byte{byte(n)}, n-1, 0, api.ErrBig)
		number(t, small, []byte{byte(n)}, math.MaxInt, n, api.OK)
		number(t, small, []byte{byte(n)}, 256+n, n, api.OK)
		number(t, small, []byte{byte(n)}, math.MinInt, 0, api.ErrBig)
		number(t, small, []byte{byte(n), 9}, 255, n, api.ErrTail)
	}
}

// P8.1: too few bytes for a number are short, also where any number would be too big.
func TestTakeShort(t *testing.T) {
	for _, most := range someNumbers {
		number(t, small, nil, most, 0, api.ErrShort)
		number(t, small, []byte{}, most, 0, api.ErrShort)
		for n := range 8 {
			number(t, num, make([]byte, n), most, 0, api.ErrShort)
			number(t, num, bytes.Repeat([]byte{0xff}, n), most, 0, api.ErrShort)
		}
		for n := range 4 {
			list(t, counts, make([]byte, n), most, nil, api.ErrShort)
			list(t, counts, bytes.Repeat([]byte{0xff}, n), most, nil, api.ErrShort)
		}
	}
}

// P8.1: Fixed takes just so many; below 0 none, without an error.
func TestTakeFixed(t *testing.T) {
	for m := range 20 {
		b := text(5, m)
		for _, n := range []int{math.MinInt, -1, 0} {
			want := api.OK
			if m > 0 {
				want = api.ErrTail
			}
			list(t, fixed, b, n, nil, want)
		}
		for n := 1; n < m; n++ {
			list(t, fixed, b, n, b[:n], api.ErrTail)
		}
		list(t, fixed, b, m, b, api.OK)
		for _, n := range []int{m + 1, m + 2, m + 1<<32, math.MaxInt} {
			list(t, fixed, b, n, nil, api.ErrShort)
		}
	}
	i := codec.Of([]byte{1, 2})
	i.Fixed(-1)
	if got := i.Fixed(2); !bytes.Equal(got, []byte{1, 2}) || i.End() != api.OK {
		t.Errorf("behind Fixed(-1): %x, error %d", got, i.End())
	}
}

// P8.1: Bytes, its errors in their order: too few for the count; a count above most; too few behind it.
func TestTakeBytes(t *testing.T) {
	for n := range 20 {
		b := text(5, n)
		for _, most := range []int{n, n + 1, 1 << 20, math.MaxInt} {
			list(t, counts, counted(b), most, b, api.OK)
			list(t, counts, append(counted(b), 7), most, b, api.ErrTail)
			for m := range n {
				list(t, counts, counted(b)[:4+m], most, nil, api.ErrShort)
			}
		}
		for _, most := range []int{n - 1, -1, math.MinInt} {
			list(t, counts, counted(b), most, nil, api.ErrBig)
			list(t, counts, counted(b)[:4], most, nil, api.ErrBig)
			list(t, counts, append(counted(b), 7), most, nil, api.ErrBig)
		}
	}
	huge := []byte{0xff, 0xff, 0xff, 0xff, 1}
	list(t, counts, huge, math.MaxInt, nil, api.ErrShort)
	list(t, counts, huge, 1<<32-1, nil, api.ErrShort)
	list(t, counts, huge, 1<<32-2, nil, api.ErrBig)
	list(t, counts, []byte{0, 0, 0, 0}, -1, nil, api.ErrBig)
}

// P8.1: parts are taken one behind the other; what is left is told, and is still there to be taken.
func TestTakeInTurn(t *testing.T) {
	b, _ := new(codec.Out).Small(3).Num(258).Bytes([]byte("ab")).Fixed([]byte("cd")).Num(0).Bytes(nil).Small(0).Done()
	i := codec.Of(b)
	tails := func(what string, ok bool) {
		t.Helper()
		if !ok || i.End() != api.ErrTail || i.End() != api.ErrTail {
			t.Errorf("%s, error %d", what, i.End())
		}
	}
	tails("nothing", true)
	tails("Small", i.Small(3) == 3)
	tails("Num", i.Num(258) == 258)
	tails("Bytes", string(i.Bytes(2)) == "ab")
	tails("Fixed", string(i.Fixed(2)) == "cd")
	tails("Num of 0", i.Num(0) == 0)
	tails("Bytes of none", len(i.Bytes(0)) == 0)
	if i.Small(0) != 0 || i.End() != api.OK || i.End() != api.OK {
		t.Errorf("the last one, error %d", i.End())
	}
	if len(i.Fixed(0)) != 0 || i.End() != api.OK {
		t.Errorf("none behind the end, error %d", i.End())
	}
	if i.Small(255) != 0 || i.End() != api.ErrShort {
		t.Errorf("one behind the end, error %d", i.End())
	}
}

// P8.1: the first error is the In's, whatever would be one behind it.
func TestFirstError(t *testing.T) {
	i := codec.Of([]byte{5, 1, 2, 3})
	if i.Small(4) != 0 || i.Num(9) != 0 || i.End() != api.ErrBig {
		t.Errorf("big, then short: error %d", i.End())
	}
	i = codec.Of([]byte{5, 1, 2, 3})
	if i.Num(9) != 0 || i.Small(4) != 0 || i.End() != api.ErrShort {
		t.Errorf("short, then big: error %d", i.End())
	}
	i = codec.Of([]byte{0, 0, 0, 2, 7, 1, 2, 3})
	if i.Small(9) != 0 || len(i.Bytes(1)) != 0 || len(i.Fixed(99)) != 0 || i.End() != api.ErrBig {
		t.Errorf("big, then short, behind a part: error %d", i.End())
	}
}

// P8.1: a nil In; and one without bytes.
func TestNilIn(t *testing.T) {
	var i *codec.In
	for _, n := range someNumbers {
		if i.Num(n) != 0 || i.Small(n) != 0 || len(i.Fixed(min(n, 9))) != 0 || len(i.Bytes(n)) != 0 || i.End() != api.ErrArg {
			t.Errorf("nil, by %d: error %d", n, i.End())
		}
	}
	for _, i := range []*codec.In{codec.Of(nil), codec.Of([]byte{}), {}} {
		if i == nil || i.End() != api.OK || len(i.Fixed(0)) != 0 || i.End() != api.OK {
			t.Errorf("of none: error %d", i.End())
		}
		if i.Small(9) != 0 || i.End() != api.ErrShort {
			t.Errorf("of none, asked for one: error %d", i.End())
		}
	}
}

// form: parts of all kinds, that are put, and taken again by their bounds.
type form struct {
	small, num int
	some       string
	fixed      [3]byte
	more       string
}

func (f form) put() []byte {
	b, _ := new(codec.Out).Small(f.small).Num(f.num).Bytes([]byte(f.some)).Fixed(f.fixed[:]).Bytes([]byte(f.more)).Done()
	return b
}

func taken(b []byte) (form, api.Errno) {
	i := codec.Of(b)
	f := form{small: i.Small(255), num: i.Num(math.MaxInt), some: string(i.Bytes(1 << 20))}
	copy(f.fixed[:], i.Fixed(3))
	f.more = string(i.Bytes(1 << 20))
	return f, i.End()
}

func someForms() []form {
	var out []form
	for _, n := range []int{0, 1, 255, 256, 1 << 40, math.MaxInt} {
		for _, some := range []string{"", "a", "ab\x00", string(text(1, 300))} {
			for _, more := range []string{"", "\x00\x00\x00\x00", "bc"} {
				out = append(out, form{n & 255, n, some, [3]byte{byte(n), 2, 3}, more})
			}
		}
	}
	return out
}

// P8.2: what is put is taken again, and no other form has the same bytes.
func TestTakenAgain(t *testing.T) {
	whose := map[string]form{}
	for _, f := range someForms() {
		b := f.put()
		if got, e := taken(b); got != f || e != api.OK {
			t.Errorf("of %v: %v, error %d", f, got, e)
		}
		if other, ok := whose[string(b)]; ok && other != f {
			t.Errorf("%v and %v have the same bytes", f, other)
		}
		whose[string(b)] = f
	}
}

// P8.2: no other bytes are taken as the same: with any bit changed, fewer bytes or more of them.
func TestNoOtherBytes(t *testing.T) {
	for _, f := range someForms() {
		b := f.put()
		for at := range 8 * len(b) {
			other := slices.Clone(b)
			other[at/8] ^= 1 << (at % 8)
			got, e := taken(other)
			if e == api.OK && (got == f || !bytes.Equal(got.put(), other)) {
				t.Errorf("of %v, bit %d changed: %v", f, at, got)
			}
		}
		for n := range b {
			if got, e := taken(b[:n]); e != api.ErrShort {
				t.Errorf("of %v, %d bytes alone: %v, error %d", f, n, got, e)
			}
		}
		for n := 1; n < 10; n++ {
			if got, e := taken(append(slices.Clone(b), make([]byte, n)...)); e != api.ErrTail {
				t.Errorf("of %v, %d bytes more: %v, error %d", f, n, got, e)
			}
		}
	}
}

// P8.3: bytes that are handed in aren't changed, their spare room neither.
func TestUnchanged(t *testing.T) {
	for n := range 40 {
		b, changed := roomy(text(7, n))
		o := new(codec.Out).Fixed(b)
		o.Bytes(b).Fixed(b).Num(1).Fixed(b[:n/2]).Small(2)
		o.Done()
		whole, changedWhole := roomy(counted(b))
		for _, i := range []*codec.In{codec.Of(b), codec.Of(whole)} {
			i.Small(255)
			spoil(i.Fixed(3))
			spoil(i.Fixed(4))
			i.Num(math.MaxInt)
		}
		spoil(codec.Of(whole).Bytes(n))
		spoil(codec.Of(whole).Bytes(n - 1))
		if changed() || changedWhole() {
			t.Errorf("%d bytes were changed", n)
		}
	}
}

// P8.3: what Done answers is new memory: writing into it changes neither an argument, nor another answer, nor what is put.
func TestDoneNewMemory(t *testing.T) {
	for n := range 40 {
		b, changed := roomy(text(7, n))
		o := new(codec.Out).Fixed(b)
		first, _ := o.Done()
		second, _ := o.Done()
		spoil(first)
		if changed() || !bytes.Equal(second, b) {
			t.Errorf("%d bytes: an answer shares memory", n)
		}
		done(t, "spoilt", o, b, api.OK)
		spoil(second)
		done(t, "spoilt, and more", o.Small(9), append(slices.Clone(b), 9), api.OK)
		third, _ := o.Done()
		o.Small(8).Small(7)
		spoil(third)
		done(t, "spoilt behind more", o, append(slices.Clone(b), 9, 8, 7), api.OK)
	}
}

// P8.3: what is taken is new memory: writing into it, or behind it, changes neither what is left nor another answer.
func TestTakenNewMemory(t *testing.T) {
	b := slices.Concat([]byte("abc"), counted([]byte("defg")), counted([]byte("hi")), []byte("jkl"))
	i := codec.Of(b)
	var all [][]byte
	for _, take := range []func() []byte{func() []byte { return i.Fixed(3) }, func() []byte { return i.Bytes(4) }, func() []byte { return i.Bytes(4) }, func() []byte { return i.Fixed(3) }} {
		got := take()
		all = append(all, slices.Clone(got))
		spoil(got)
	}
	if got := bytes.Join(all, nil); string(got) != "abcdefghijkl" || i.End() != api.OK {
		t.Errorf("%q, error %d", got, i.End())
	}
	first, second := codec.Of(b), codec.Of(b)
	spoil(first.Fixed(len(b)))
	if got := second.Fixed(len(b)); !bytes.Equal(got, b) {
		t.Errorf("another In: %q", got)
	}
}

// P8.3: what was handed in isn't kept: what is put, or there to be taken, stays as it is when it changes.
func TestNotKept(t *testing.T) {
	for n := range 40 {
		b, more := text(7, n), text(9, n)
		o := new(codec.Out).Fixed(b).Bytes(more)
		i := codec.Of(b)
		spoil(b)
		spoil(more)
		done(t, "put", o, slices.Concat(text(7, n), counted(text(9, n))), api.OK)
		if got := i.Fixed(n); !bytes.Equal(got, text(7, n)) || i.End() != api.OK {
			t.Errorf("taken: %x, error %d", got, i.End())
		}
	}
}

// P1: every call ends without a panic, at arguments of all kinds.
func TestAllArguments(t *testing.T) {
	lists := [][]byte{nil, {}, {0}, {255}, text(1, 3), make([]byte, 4), text(2, 7), make([]byte, 8), bytes.Repeat([]byte{0xff}, 9), text(3, 1000)}
	for _, n := range someNumbers {
		for _, b := range lists {
			for _, o := range []*codec.Out{nil, {}} {
				o.Num(n).Small(n).Fixed(b).Bytes(b).Num(n).Done()
			}
			for _, i := range []*codec.In{nil, {}, codec.Of(b)} {
				i.Fixed(n)
				i.Num(n)
				i.Bytes(n)
				i.Small(n)
				i.End()
			}
		}
	}
}
