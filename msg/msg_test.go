package msg_test

import (
	"bytes"
	"encoding/binary"
	"encoding/hex"
	"math"
	"math/rand/v2"
	"reflect"
	"slices"
	"testing"

	"casket/api"
	"casket/msg"
)

const (
	mostAsk = 1 << 62
	mostSet = 1 << 20
)

// kinds: all there are.
var kinds = []int{msg.Store, msg.Stored, msg.Fetch, msg.Fetched, msg.Hold, msg.Nodes, msg.Rows}

func num(b []byte, n int) []byte { return binary.BigEndian.AppendUint64(b, uint64(n)) }

func rowBytes(b []byte, r msg.Row) []byte {
	b = binary.BigEndian.AppendUint32(append(b, r.Key[:]...), uint32(len(r.Set)))
	return append(b, r.Set...)
}

func atBytes(b []byte, at []int) []byte {
	b = append(b, byte(len(at)))
	for _, n := range at {
		b = num(b, n)
	}
	return b
}

// bytesOf: a message's bytes, as the chapter tells them, of one that is within its bounds.
func bytesOf(m msg.Msg) []byte {
	b := num([]byte{byte(m.Kind), byte(m.From)}, m.Ask)
	switch m.Kind {
	case 1, 4:
		b = rowBytes(b, m.Row)
	case 2:
		b = append(b, byte(m.Err))
	case 3:
		b = append(b, m.Row.Key[:]...)
	case 5:
		b = rowBytes(append(b, byte(m.For)), m.Row)
	case 6:
		b = append(atBytes(append(b, byte(m.Level)), m.At), byte(len(m.Digests)))
		for _, d := range m.Digests {
			b = append(b, d[:]...)
		}
	case 7:
		b = append(atBytes(b, m.At), byte(len(m.Rows)))
		for _, r := range m.Rows {
			b = rowBytes(b, r)
		}
	}
	return b
}

// only: a message without what its kind doesn't have.
func only(m msg.Msg) msg.Msg {
	out := msg.Msg{Kind: m.Kind, From: m.From, Ask: m.Ask}
	switch m.Kind {
	case msg.Store, msg.Fetched:
		out.Row = m.Row
	case msg.Stored:
		out.Err = m.Err
	case msg.Fetch:
		out.Row.Key = m.Row.Key
	case msg.Hold:
		out.For, out.Row = m.For, m.Row
	case msg.Nodes:
		out.Level, out.At, out.Digests = m.Level, m.At, m.Digests
	case msg.Rows:
		out.At, out.Rows = m.At, m.Rows
	}
	return out
}

// same: are two messages the same? Nil and empty lists are one.
func same(a, b msg.Msg) bool {
	sameRow := func(x, y msg.Row) bool { return x.Key == y.Key && bytes.Equal(x.Set, y.Set) }
	return a.Kind == b.Kind && a.From == b.From && a.Ask == b.Ask && a.Err == b.Err && a.For == b.For && a.Level == b.Level &&
		sameRow(a.Row, b.Row) && slices.Equal(a.At, b.At) && slices.Equal(a.Digests, b.Digests) && slices.EqualFunc(a.Rows, b.Rows, sameRow)
}

// copied: a message that shares nothing.
func copied(m msg.Msg) msg.Msg {
	m.Row.Set = slices.Clone(m.Row.Set)
	m.At, m.Digests, m.Rows = slices.Clone(m.At), slices.Clone(m.Digests), slices.Clone(m.Rows)
	for i := range m.Rows {
		m.Rows[i].Set = slices.Clone(m.Rows[i].Set)
	}
	return m
}

// writes: just these bytes; and they are read again as just that message.
func writes(t *testing.T, what string, m msg.Msg, want []byte) {
	t.Helper()
	b, e := msg.Write(m)
	if !bytes.Equal(b, want) || e != api.OK {
		t.Fatalf("%s: Write of kind %d: %s, error %d, want %s", what, m.Kind, short(b), e, short(want))
	}
	reads(t, what, want, only(m))
}

func reads(t *testing.T, what string, b []byte, want msg.Msg) {
	t.Helper()
	if got, e := msg.Read(b); !same(got, want) || e != api.OK {
		t.Fatalf("%s: Read of %s: kind %d, error %d, want kind %d, or another one", what, short(b), got.Kind, e, want.Kind)
	}
}

func refusedWrite(t *testing.T, what string, m msg.Msg) {
	t.Helper()
	if b, e := msg.Write(m); len(b) != 0 || e != api.ErrDecode {
		t.Errorf("%s: Write of kind %d: %s, error %d, want none, ErrDecode", what, m.Kind, short(b), e)
	}
}

func refusedRead(t *testing.T, what string, b []byte) {
	t.Helper()
	if m, e := msg.Read(b); !reflect.DeepEqual(m, msg.Msg{}) || e != api.ErrDecode {
		t.Errorf("%s: Read of %s: kind %d, error %d, want nothing, ErrDecode", what, short(b), m.Kind, e)
	}
}

func short(b []byte) string {
	if len(b) > 120 {
		return hex.EncodeToString(b[:120]) + ".."
	}
	return hex.EncodeToString(b)
}

// keyOf: a key, or a digest, whose bytes are all unlike.
func keyOf(first byte) [32]byte {
	var k [32]byte
	for i := range k {
		k[i] = first + byte(i)
	}
	return k
}

// full: a message that has something in each field, within all bounds.
func full(kind int) msg.Msg {
	return msg.Msg{
		Kind: kind, From: 3, Ask: 258, Err: 9, For: 5, Level: 2,
		Row:     msg.Row{Key: keyOf(1), Set: []byte("set")},
		At:      []int{7, 0, 255, 7},
		Digests: [][32]byte{keyOf(40), {}},
		Rows:    []msg.Row{{Key: keyOf(80), Set: []byte("ab")}, {}, {Key: keyOf(120), Set: []byte{0}}},
	}
}

// P22.1: the chapter's example.
func TestExample(t *testing.T) {
	want, _ := hex.DecodeString("0202000000000000000300")
	writes(t, "the example", msg.Msg{Kind: msg.Stored, From: 2, Ask: 3, Err: 0}, want)
}

// P22.1: the kinds' numbers, and the bytes of each, written out by hand.
func TestByHand(t *testing.T) {
	if !slices.Equal(kinds, []int{1, 2, 3, 4, 5, 6, 7}) {
		t.Errorf("the kinds are %v", kinds)
	}
	const ask = "0000000000000102"
	const key = "0102030405060708090a0b0c0d0e0f101112131415161718191a1b1c1d1e1f20"
	const row = key + "00000003736574"
	const at = "04" + "0000000000000007" + "0000000000000000" + "00000000000000ff" + "0000000000000007"
	const noughts = "0000000000000000000000000000000000000000000000000000000000000000"
	const digest = "28292a2b2c2d2e2f303132333435363738393a3b3c3d3e3f4041424344454647"
	const row1 = "505152535455565758595a5b5c5d5e5f606162636465666768696a6b6c6d6e6f" + "000000026162"
	const row3 = "78797a7b7c7d7e7f808182838485868788898a8b8c8d8e8f9091929394959697" + "0000000100"
	for i, want := range []string{
		"0103" + ask + row,
		"0203" + ask + "09",
		"0303" + ask + key,
		"0403" + ask + row,
		"0503" + ask + "05" + row,
		"0603" + ask + "02" + at + "02" + digest + noughts,
		"0703" + ask + at + "03" + row1 + noughts + "00000000" + row3,
	} {
		b, e := hex.DecodeString(want)
		if e != nil {
			t.Fatal(e)
		}
		writes(t, "by hand", full(kinds[i]), b)
	}
}

// P22.1: of a message without anything.
func TestBare(t *testing.T) {
	for kind, tail := range map[int]int{msg.Store: 36, msg.Stored: 1, msg.Fetch: 32, msg.Fetched: 36, msg.Hold: 37, msg.Nodes: 3, msg.Rows: 2} {
		writes(t, "bare", msg.Msg{Kind: kind}, append([]byte{byte(kind)}, make([]byte, 9+tail)...))
	}
}

// P22.1: another kind is none, whatever else there is.
func TestNoSuchKind(t *testing.T) {
	for _, kind := range []int{math.MinInt, -256, -7, -1, 0, 8, 9, 255, 256, 257, 263, 1 << 32, 1<<32 + 1, math.MaxInt} {
		refusedWrite(t, "no such kind", full(kind))
		refusedWrite(t, "no such kind, bare", msg.Msg{Kind: kind})
	}
	for kind := range 256 {
		for _, like := range kinds {
			b := bytesOf(full(like))
			b[0] = byte(kind)
			if kind < 1 || kind > 7 {
				refusedRead(t, "no such kind", b)
				refusedRead(t, "no such kind, without parts", b[:10])
			}
		}
	}
}

// numbers: about each bound.
var numbers = []int{math.MinInt, math.MinInt32, -256, -1, 0, 1, 2, 3, 4, 5, 6, 7, 8, 9, 10, 127, 128, 254, 255, 256, 257, 1 << 31, 1 << 32, mostAsk - 1, mostAsk, mostAsk + 1, math.MaxInt - 1, math.MaxInt}

// P22.1: each number is within its bound, or nothing is written; what a kind doesn't have isn't looked at.
func TestWriteNumbers(t *testing.T) {
	for _, f := range []struct {
		what  string
		most  int
		kinds []int
		set   func(*msg.Msg, int)
	}{
		{"From", 8, kinds, func(m *msg.Msg, n int) { m.From = n }},
		{"Ask", mostAsk, kinds, func(m *msg.Msg, n int) { m.Ask = n }},
		{"Err", 255, []int{msg.Stored}, func(m *msg.Msg, n int) { m.Err = api.Errno(n) }},
		{"For", 7, []int{msg.Hold}, func(m *msg.Msg, n int) { m.For = n }},
		{"Level", 4, []int{msg.Nodes}, func(m *msg.Msg, n int) { m.Level = n }},
		{"the first At", 255, []int{msg.Nodes, msg.Rows}, func(m *msg.Msg, n int) { m.At = []int{n, 1, 2} }},
		{"an At between", 255, []int{msg.Nodes, msg.Rows}, func(m *msg.Msg, n int) { m.At = []int{1, n, 2} }},
		{"the last At", 255, []int{msg.Nodes, msg.Rows}, func(m *msg.Msg, n int) { m.At = []int{1, 2, n} }},
	} {
		for _, kind := range kinds {
			for _, n := range numbers {
				m := full(kind)
				f.set(&m, n)
				if slices.Contains(f.kinds, kind) && (n < 0 || n > f.most) {
					refusedWrite(t, f.what, m)
				} else {
					writes(t, f.what, m, bytesOf(only(m)))
				}
			}
		}
	}
}

// P22.1: a list has at most 255; of a kind that hasn't it its length isn't looked at.
func TestWriteCounts(t *testing.T) {
	for _, f := range []struct {
		what  string
		kinds []int
		set   func(*msg.Msg, int)
	}{
		{"At", []int{msg.Nodes, msg.Rows}, func(m *msg.Msg, n int) { m.At = make([]int, n) }},
		{"Digests", []int{msg.Nodes}, func(m *msg.Msg, n int) { m.Digests = make([][32]byte, n) }},
		{"Rows", []int{msg.Rows}, func(m *msg.Msg, n int) { m.Rows = make([]msg.Row, n) }},
	} {
		for _, kind := range kinds {
			for _, n := range []int{0, 1, 2, 127, 128, 254, 255, 256, 257, 300, 511, 512} {
				m := full(kind)
				f.set(&m, n)
				if slices.Contains(f.kinds, kind) && n > 255 {
					refusedWrite(t, f.what, m)
				} else {
					writes(t, f.what, m, bytesOf(only(m)))
				}
			}
		}
	}
}

// P22.1: a Set has at most 2^20 bytes, in each place where a row may be.
func TestWriteSets(t *testing.T) {
	for _, n := range []int{0, 1, 255, 256, 65536, mostSet - 1, mostSet, mostSet + 1, 2 * mostSet} {
		set := bytes.Repeat([]byte{0xab, 0xcd}, n/2+1)[:n]
		for _, kind := range kinds {
			one := full(kind)
			one.Row.Set = set
			setWritten(t, one, n > mostSet && slices.Contains([]int{msg.Store, msg.Fetched, msg.Hold}, kind))
			for i := range 3 {
				several := full(kind)
				several.Rows[i].Set = set
				setWritten(t, several, n > mostSet && kind == msg.Rows)
			}
		}
	}
}

func setWritten(t *testing.T, m msg.Msg, refused bool) {
	t.Helper()
	if refused {
		refusedWrite(t, "a Set", m)
	} else {
		writes(t, "a Set", m, bytesOf(only(m)))
	}
}

// P22.1: bytes that are cut anywhere, or have something behind them, are no message.
func TestReadCut(t *testing.T) {
	for _, kind := range kinds {
		for _, m := range []msg.Msg{full(kind), {Kind: kind}} {
			b := bytesOf(m)
			for n := range b {
				refusedRead(t, "cut", b[:n])
				if n > 0 {
					refusedRead(t, "cut ahead", b[n:])
				}
			}
			for _, tail := range [][]byte{{0}, {1}, {255}, make([]byte, 8), make([]byte, 36), b} {
				refusedRead(t, "something behind", append(slices.Clone(b), tail...))
			}
		}
	}
	refusedRead(t, "none", nil)
	refusedRead(t, "none", []byte{})
}

// P22.1: each number that is read is within its bound: of each byte of From, Err, For and Level.
func TestReadSmall(t *testing.T) {
	for _, f := range []struct {
		what  string
		most  int
		kinds []int
		place int
	}{
		{"From", 8, kinds, 1},
		{"Err", 255, []int{msg.Stored}, 10},
		{"For", 7, []int{msg.Hold}, 10},
		{"Level", 4, []int{msg.Nodes}, 10},
	} {
		for _, kind := range f.kinds {
			for n := range 256 {
				b := bytesOf(full(kind))
				b[f.place] = byte(n)
				if n > f.most {
					refusedRead(t, f.what, b)
					continue
				}
				m, e := msg.Read(b)
				if e != api.OK || !bytes.Equal(bytesOf(m), b) {
					t.Errorf("%s %d of kind %d: error %d, or another message", f.what, n, kind, e)
				}
			}
		}
	}
}

// P22.1: Ask and each At that are read are within their bounds, also where they are no int.
func TestReadNum(t *testing.T) {
	wide := []uint64{0, 1, 254, 255, 256, 257, 1 << 8, 1 << 16, 1 << 24, 1 << 32, 1 << 40, 1 << 48, 1 << 56, mostAsk - 1, mostAsk, mostAsk + 1, 1<<63 - 1, 1 << 63, 1<<63 + 1, math.MaxUint64}
	for _, kind := range kinds {
		for _, x := range wide {
			readNum(t, "Ask", kind, 2, x, mostAsk)
		}
	}
	for _, x := range wide {
		for i := range 4 {
			readNum(t, "At of Nodes", msg.Nodes, 12+8*i, x, 255)
			readNum(t, "At of Rows", msg.Rows, 11+8*i, x, 255)
		}
	}
}

func readNum(t *testing.T, what string, kind, place int, x, most uint64) {
	t.Helper()
	b := bytesOf(full(kind))
	binary.BigEndian.PutUint64(b[place:], x)
	if x > most {
		refusedRead(t, what, b)
		return
	}
	if m, e := msg.Read(b); e != api.OK || !bytes.Equal(bytesOf(m), b) {
		t.Errorf("%s %d of kind %d: error %d, or another message", what, x, kind, e)
	}
}

// P22.1: a Set that is read has at most 2^20 bytes, also where they are there.
func TestReadSets(t *testing.T) {
	for kind, place := range map[int]int{msg.Store: 42, msg.Fetched: 42, msg.Hold: 43} {
		for _, n := range []int{mostSet, mostSet + 1, 1 << 24} {
			m := full(kind)
			m.Row.Set = make([]byte, n)
			if n > mostSet {
				refusedRead(t, "a Set", bytesOf(m))
			} else {
				reads(t, "a Set", bytesOf(m), only(m))
			}
		}
		for _, count := range []uint32{0, 2, 4, 1 << 8, mostSet, mostSet + 1, 1 << 31, math.MaxUint32} {
			b := bytesOf(full(kind))
			binary.BigEndian.PutUint32(b[place:], count)
			refusedRead(t, "another count of a Set", b)
		}
	}
	for i := range 3 {
		for _, n := range []int{mostSet, mostSet + 1} {
			m := full(msg.Rows)
			m.Rows[i].Set = make([]byte, n)
			if n > mostSet {
				refusedRead(t, "a row's Set", bytesOf(m))
			} else {
				reads(t, "a row's Set", bytesOf(m), only(m))
			}
		}
	}
}

// P22.1: of a list's count that isn't how many there are nothing is read.
func TestReadCounts(t *testing.T) {
	for count := range 256 {
		nodes, rows := bytesOf(full(msg.Nodes)), bytesOf(full(msg.Rows))
		nodes[11], rows[10] = byte(count), byte(count)
		if count != 4 {
			refusedRead(t, "the count of At of Nodes", nodes)
			refusedRead(t, "the count of At of Rows", rows)
		}
		nodes, rows = bytesOf(full(msg.Nodes)), bytesOf(full(msg.Rows))
		nodes[44], rows[43] = byte(count), byte(count)
		if count != 2 {
			refusedRead(t, "the count of Digests", nodes)
		}
		if count != 3 {
			refusedRead(t, "the count of Rows", rows)
		}
	}
}

// drawnMsg: one within its bounds, with something in each field, also in those that its kind doesn't have.
func drawnMsg(rng *rand.Rand) msg.Msg {
	m := msg.Msg{Kind: kinds[rng.IntN(7)], From: rng.IntN(9), Ask: int(rng.Int64N(mostAsk+1)) >> rng.IntN(63), Err: api.Errno(rng.IntN(256)), For: rng.IntN(8), Level: rng.IntN(5)}
	m.Row = drawnRow(rng)
	for range drawnCount(rng) {
		m.At = append(m.At, rng.IntN(256))
	}
	for range drawnCount(rng) {
		m.Digests = append(m.Digests, drawnRow(rng).Key)
	}
	for range drawnCount(rng) {
		m.Rows = append(m.Rows, drawnRow(rng))
	}
	return m
}

func drawnCount(rng *rand.Rand) int {
	if rng.IntN(10) == 0 {
		return rng.IntN(256)
	}
	return rng.IntN(4)
}

func drawnRow(rng *rand.Rand) msg.Row {
	r := msg.Row{Set: make([]byte, rng.IntN(9))}
	for i := range r.Key {
		r.Key[i] = byte(rng.Uint32())
	}
	for i := range r.Set {
		r.Set[i] = byte(rng.Uint32())
	}
	return r
}

// P22.2: what is written is read again, of drawn messages.
func TestDrawn(t *testing.T) {
	rng := rand.New(rand.NewPCG(1, 22))
	for range 5000 {
		m := drawnMsg(rng)
		writes(t, "drawn", m, bytesOf(m))
	}
}

// readOnly: bytes that are read as a message are just those that it is written as; all others are told to be none.
func readOnly(t *testing.T, b []byte) {
	t.Helper()
	m, e := msg.Read(b)
	if e != api.OK {
		refusedRead(t, "other bytes", b)
		return
	}
	if again, e := msg.Write(m); !bytes.Equal(again, b) || e != api.OK || !bytes.Equal(bytesOf(m), b) {
		t.Errorf("%s is read, and written as %s, error %d", short(b), short(again), e)
	}
}

// P22.2: no other bytes are a message's: of each byte changed, taken out, and put in.
func TestEachByte(t *testing.T) {
	for _, kind := range kinds {
		b := bytesOf(full(kind))
		for i := range b {
			for _, x := range []byte{1, 2, 4, 8, 16, 32, 64, 128, 255} {
				other := slices.Clone(b)
				other[i] ^= x
				readOnly(t, other)
			}
			readOnly(t, slices.Delete(slices.Clone(b), i, i+1))
			readOnly(t, slices.Insert(slices.Clone(b), i, 0))
			readOnly(t, slices.Insert(slices.Clone(b), i, 1))
		}
	}
}

// P22.1, P22.2: Read answers for all bytes: drawn ones, and drawn messages' with some changed.
func TestDrawnBytes(t *testing.T) {
	rng := rand.New(rand.NewPCG(2, 22))
	for range 20000 {
		b := make([]byte, rng.IntN(80))
		for i := range b {
			b[i] = byte(rng.IntN(256)) & byte(rng.IntN(256)) & byte(rng.IntN(256))
		}
		readOnly(t, b)
		if len(b) > 0 {
			b[0] = byte(1 + rng.IntN(7))
			readOnly(t, b)
		}
	}
	for range 5000 {
		b := bytesOf(drawnMsg(rng))
		for range 1 + rng.IntN(3) {
			b[rng.IntN(len(b))] = byte(rng.IntN(256))
		}
		readOnly(t, b)
	}
}

// P22.1: Write answers for all messages: fields of any numbers.
func TestDrawnFields(t *testing.T) {
	rng := rand.New(rand.NewPCG(3, 22))
	any := func() int { return numbers[rng.IntN(len(numbers))] }
	for range 20000 {
		m := drawnMsg(rng)
		for _, n := range []*int{&m.Kind, &m.From, &m.Ask, &m.For, &m.Level} {
			if rng.IntN(8) == 0 {
				*n = any()
			}
		}
		if rng.IntN(4) == 0 {
			m.Err = api.Errno(any())
		}
		if len(m.At) > 0 && rng.IntN(4) == 0 {
			m.At[rng.IntN(len(m.At))] = any()
		}
		if within(m) {
			writes(t, "any fields", m, bytesOf(only(m)))
		} else {
			refusedWrite(t, "any fields", m)
		}
	}
}

// within: is all that a message's kind has within its bounds? (Sets and counts aside.)
func within(m msg.Msg) bool {
	is := func(n, most int) bool { return n >= 0 && n <= most }
	badAt := slices.ContainsFunc(m.At, func(n int) bool { return !is(n, 255) })
	switch {
	case !is(m.From, 8) || !is(m.Ask, mostAsk) || !slices.Contains(kinds, m.Kind):
		return false
	case m.Kind == msg.Stored:
		return is(int(m.Err), 255)
	case m.Kind == msg.Hold:
		return is(m.For, 7)
	case m.Kind == msg.Nodes:
		return is(m.Level, 4) && !badAt
	case m.Kind == msg.Rows:
		return !badAt
	}
	return true
}

// roomy: a message whose lists have spare room, filled, and a look whether any of it, or of them, was changed.
func roomy(kind int) (msg.Msg, func() bool) {
	m := full(kind)
	set := append(slices.Clone(m.Row.Set), "spare"...)
	at := append(slices.Clone(m.At), -5, -6)
	digests := append(slices.Clone(m.Digests), keyOf(9), keyOf(8))
	rows := append(slices.Clone(m.Rows), msg.Row{Key: keyOf(7)}, msg.Row{Key: keyOf(6)})
	rows[0].Set = append(slices.Clone(m.Rows[0].Set), "spare"...)[:len(m.Rows[0].Set)]
	m.Row.Set, m.At, m.Digests, m.Rows = set[:len(m.Row.Set)], at[:len(m.At)], digests[:len(m.Digests)], rows[:len(m.Rows)]
	was := copied(msg.Msg{Row: msg.Row{Set: set}, At: at, Digests: digests, Rows: rows})
	return m, func() bool {
		now := msg.Msg{Row: msg.Row{Set: m.Row.Set[:len(set)]}, At: m.At[:len(at)], Digests: m.Digests[:len(digests)], Rows: m.Rows[:len(rows)]}
		return !same(now, was) || string(rows[0].Set[:len(rows[0].Set)+5]) != "abspare"
	}
}

// P22.3: what is handed in isn't changed, its spare room neither, also by a call that refuses.
func TestHandedIn(t *testing.T) {
	for _, kind := range append(slices.Clone(kinds), 0, 8) {
		m, changed := roomy(kind)
		msg.Write(m)
		m.From = 9
		msg.Write(m)
		if changed() {
			t.Errorf("Write of kind %d changes what was handed in", kind)
		}
		whole := append(bytesOf(full(kind)), bytes.Repeat([]byte{0xee}, 50)...)
		was := slices.Clone(whole)
		for n := range whole {
			msg.Read(whole[:n])
		}
		if !bytes.Equal(whole, was) {
			t.Errorf("Read of kind %d changes what was handed in", kind)
		}
	}
}

// spoil writes over all that a message has, and behind it.
func spoil(m msg.Msg) {
	spoilBytes(m.Row.Set)
	for _, r := range m.Rows {
		spoilBytes(r.Set)
	}
	for l := m.At[:cap(m.At)]; len(l) > 0; l = l[1:] {
		l[0] = -7
	}
	for l := m.Digests[:cap(m.Digests)]; len(l) > 0; l = l[1:] {
		l[0] = keyOf(77)
	}
	for l := m.Rows[:cap(m.Rows)]; len(l) > 0; l = l[1:] {
		l[0] = msg.Row{Key: keyOf(78)}
	}
}

func spoilBytes(b []byte) {
	b = b[:cap(b)]
	for i := range b {
		b[i] ^= 0x55
	}
}

// P22.3: answers are new memory, and nothing that was handed in is kept: what is done to one changes no other one.
func TestNewMemory(t *testing.T) {
	for _, kind := range kinds {
		m := full(kind)
		want := bytesOf(m)
		b, _ := msg.Write(m)
		again, _ := msg.Write(m)
		spoilBytes(again)
		if !same(m, full(kind)) || !bytes.Equal(b, want) {
			t.Errorf("kind %d: Write's answers share memory", kind)
		}
		spoil(m)
		if !bytes.Equal(b, want) {
			t.Errorf("kind %d: Write's answer changes with what was handed in", kind)
		}
		one, _ := msg.Read(b)
		other, _ := msg.Read(b)
		spoil(other)
		if !same(one, only(full(kind))) || !bytes.Equal(b, want) {
			t.Errorf("kind %d: Read's answers share memory", kind)
		}
		spoilBytes(b)
		if !same(one, only(full(kind))) {
			t.Errorf("kind %d: Read's answer changes with what was handed in", kind)
		}
	}
}

// P22.3: no two lists of one answer share memory.
func TestListsApart(t *testing.T) {
	read := func(kind int) msg.Msg {
		m, e := msg.Read(bytesOf(full(kind)))
		if e != api.OK {
			t.Fatalf("kind %d: error %d", kind, e)
		}
		return m
	}
	for i := range 3 {
		m := read(msg.Rows)
		want := copied(m)
		spoilBytes(m.Rows[i].Set)
		want.Rows[i].Set = m.Rows[i].Set
		if !same(m, want) {
			t.Errorf("row %d's Set shares memory", i)
		}
	}
	m := read(msg.Nodes)
	want := copied(m)
	spoil(msg.Msg{At: m.At})
	want.At = m.At
	if !same(m, want) {
		t.Error("At shares memory")
	}
}
