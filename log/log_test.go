package log_test

import (
	"bytes"
	"encoding/binary"
	"hash/crc32"
	"math"
	"math/rand/v2"
	"slices"
	"testing"

	"casket/api"
	"casket/disk"
	"casket/log"
)

const mark = 0x6c

// text: so many bytes, by a number.
func text(n, size int) []byte {
	out := make([]byte, size)
	for i := range out {
		out[i] = byte(n*31 + i*7 + i>>8 + 1)
	}
	return out
}

// texts: records of these sizes.
func texts(sizes ...int) [][]byte {
	var out [][]byte
	for i, size := range sizes {
		out = append(out, text(i, size))
	}
	return out
}

func checked(b []byte) []byte {
	return binary.LittleEndian.AppendUint32(slices.Clone(b), crc32.Checksum(b, crc32.MakeTable(crc32.Castagnoli)))
}

// recordOf: a record's bytes, as the chapter tells them.
func recordOf(rec []byte) []byte {
	return checked(append(binary.BigEndian.AppendUint32(nil, uint32(len(rec))), rec...))
}

func recordsOf(recs [][]byte) []byte {
	var out []byte
	for _, rec := range recs {
		out = append(out, recordOf(rec)...)
	}
	return out
}

// headOf: a head's sector, as the chapter tells it.
func headOf(turn uint64, area byte, count uint64) disk.Sector {
	b := append(binary.BigEndian.AppendUint64([]byte{mark}, turn), area)
	var s disk.Sector
	copy(s[:], checked(binary.BigEndian.AppendUint64(b, count)))
	return s
}

func newDisk(t *testing.T, n int) *disk.Disk {
	t.Helper()
	d, e := disk.New(n)
	if e != api.OK {
		t.Fatalf("disk.New(%d): error %d", n, e)
	}
	return d
}

// diskOf: one with these bytes, that all stay.
func diskOf(t *testing.T, image []byte) *disk.Disk {
	t.Helper()
	d := newDisk(t, len(image)/64)
	for i := range d.Size() {
		d.Write(i, disk.Sector(image[64*i:]))
	}
	d.Sync()
	return d
}

func formatted(t *testing.T, n int) (*disk.Disk, *log.Log) {
	t.Helper()
	d := newDisk(t, n)
	l, e := log.Format(d)
	if l == nil || e != api.OK {
		t.Fatalf("Format of %d sectors: error %d", n, e)
	}
	return d, l
}

func opened(t *testing.T, what string, d *disk.Disk) (*log.Log, [][]byte) {
	t.Helper()
	l, recs, e := log.Open(d)
	if l == nil || e != api.OK {
		t.Fatalf("%s: Open: error %d", what, e)
	}
	return l, recs
}

func equal(a, b [][]byte) bool { return slices.EqualFunc(a, b, bytes.Equal) }

// is: an answered error is this one.
func is(t *testing.T, what string, got, want api.Errno) {
	t.Helper()
	if got != want {
		t.Errorf("%s: error %d, want %d", what, got, want)
	}
}

// tells: a log's Left and Turn.
func tells(t *testing.T, what string, l *log.Log, left, turn int) {
	t.Helper()
	if l.Left() != left || l.Turn() != turn {
		t.Errorf("%s: %d left, turn %d, want %d, %d", what, l.Left(), l.Turn(), left, turn)
	}
}

// none: Open tells an error, and nothing beside it.
func none(t *testing.T, what string, d *disk.Disk, want api.Errno) {
	t.Helper()
	if l, recs, e := log.Open(d); l != nil || len(recs) != 0 || e != want {
		t.Errorf("%s: Open: %v, %d records, error %d, want %d", what, l != nil, len(recs), e, want)
	}
}

// model: a log as the chapter tells it, with all bytes of its disk.
type model struct {
	image []byte
	recs  [][]byte
	turn  int
	area  int
}

func (m *model) sectors() int { return len(m.image) / 64 }

// room: what records have: half of what two heads leave, in whole sectors.
func (m *model) room() int { return (m.sectors() - 2) / 2 * 64 }

// put: bytes from a place of an area on, and noughts up to their last sector's end.
func (m *model) put(area, from int, b []byte) {
	at := 64*2 + area*m.room() + from
	copy(m.image[at:], b)
	for end := at + len(b); end%64 != 0; end++ {
		m.image[end] = 0
	}
}

func (m *model) head(area int) {
	m.turn, m.area = m.turn+1, area
	s := headOf(uint64(m.turn), byte(area), uint64(len(recordsOf(m.recs))))
	copy(m.image[64*(m.turn%2):], s[:])
}

func (m *model) format() {
	m.recs = nil
	m.head(0)
}

func (m *model) add(rec []byte) api.Errno {
	from := len(recordsOf(m.recs))
	if from+len(recordOf(rec)) > m.room() {
		return api.ErrFull
	}
	m.put(m.area, from, recordOf(rec))
	m.recs = append(slices.Clone(m.recs), slices.Clone(rec))
	m.head(m.area)
	return api.OK
}

func (m *model) replace(recs [][]byte) api.Errno {
	if len(recordsOf(recs)) > m.room() {
		return api.ErrFull
	}
	m.recs = slices.Clone(recs)
	if len(recs) > 0 {
		m.put(1-m.area, 0, recordsOf(recs))
	}
	m.head(1 - m.area)
	return api.OK
}

// same: the disk, the log, and one that is opened anew tell what the model tells.
func (m *model) same(t *testing.T, what string, d *disk.Disk, l *log.Log) {
	t.Helper()
	left := m.room() - len(recordsOf(m.recs))
	tells(t, what, l, left, m.turn)
	if !bytes.Equal(d.Image(), m.image) {
		t.Fatalf("%s: another image", what)
	}
	other, recs := opened(t, what, d)
	tells(t, what+", opened", other, left, m.turn)
	if !equal(recs, m.recs) || d.Loose() != 0 || !bytes.Equal(d.Image(), m.image) {
		t.Fatalf("%s: %d records, %d loose writes, want %d records", what, len(recs), d.Loose(), len(m.recs))
	}
}

// P17.1: the chapter's examples, and what else these two tell.
func TestSizeAndRoom(t *testing.T) {
	for n, want := range map[int]int{math.MinInt: 0, -66: 0, -1: 0, 0: 0, 1: 0, 2: 0, 3: 0, 4: 64, 5: 64, 6: 128, 7: 128, 8: 192, 65: 31 * 64, 66: 32 * 64, 8191: 4094 * 64, 8192: 4095 * 64, 8193: 4095 * 64, 1 << 40: (1<<39 - 1) * 64} {
		if got := log.Room(n); got != want {
			t.Errorf("Room(%d) = %d, want %d", n, got, want)
		}
	}
	if log.Room(math.MaxInt) < log.Room(1<<40) {
		t.Errorf("Room falls: %d", log.Room(math.MaxInt))
	}
	for _, n := range []int{0, 1, 2, 55, 56, 57, 64, 300, 100_000} {
		if got := log.Size(make([]byte, n)); got != n+8 || got != len(recordOf(make([]byte, n))) {
			t.Errorf("Size of %d bytes: %d", n, got)
		}
	}
	if log.Size(nil) != 8 {
		t.Errorf("Size of none: %d", log.Size(nil))
	}
}

// P17.1: a first head, byte by byte; behind it a record, and another head.
func TestBytes(t *testing.T) {
	d, l := formatted(t, 4)
	want := make([]byte, 256)
	copy(want[64:], checked([]byte{0x6c, 0, 0, 0, 0, 0, 0, 0, 1, 0, 0, 0, 0, 0, 0, 0, 0, 0}))
	if got := d.Image(); !bytes.Equal(got, want) {
		t.Errorf("formatted: %x", got)
	}
	is(t, "Append", l.Append([]byte("abc")), api.OK)
	copy(want, checked([]byte{0x6c, 0, 0, 0, 0, 0, 0, 0, 2, 0, 0, 0, 0, 0, 0, 0, 0, 11}))
	copy(want[128:], checked([]byte{0, 0, 0, 3, 'a', 'b', 'c'}))
	if got := d.Image(); !bytes.Equal(got, want) {
		t.Errorf("a record: %x", got)
	}
	is(t, "Replace", l.Replace([][]byte{nil, []byte("d")}), api.OK)
	copy(want[64:], checked([]byte{0x6c, 0, 0, 0, 0, 0, 0, 0, 3, 1, 0, 0, 0, 0, 0, 0, 0, 17}))
	copy(want[192:], append(checked([]byte{0, 0, 0, 0}), checked([]byte{0, 0, 0, 1, 'd'})...))
	if got := d.Image(); !bytes.Equal(got, want) {
		t.Errorf("replaced: %x", got)
	}
}

// P17.1, P17.3: calls, drawn, on disks of all small sizes: the disk's bytes, and what is told behind each.
func TestDrawn(t *testing.T) {
	for seed := range uint64(400) {
		rng := rand.New(rand.NewPCG(seed, 17))
		n := 4 + rng.IntN(14)
		d, l := formatted(t, n)
		m := &model{image: make([]byte, 64*n)}
		m.format()
		for step := range 40 {
			var got, want api.Errno
			switch k := rng.IntN(12); {
			case k < 7:
				rec := text(step, drawnSize(rng, l.Left()))
				got, want = l.Append(rec), m.add(rec)
			case k < 10:
				var recs [][]byte
				for range rng.IntN(4) {
					recs = append(recs, text(step+len(recs), drawnSize(rng, m.room())))
				}
				got, want = l.Replace(recs), m.replace(recs)
			case k < 11:
				l, _ = opened(t, "drawn", d)
			default:
				l, got = log.Format(d)
				m.format()
			}
			if got != want {
				t.Fatalf("seed %d, step %d: error %d, want %d", seed, step, got, want)
			}
			m.same(t, "drawn", d, l)
		}
	}
}

// drawnSize: a record's, often one that just has room, or just hasn't.
func drawnSize(rng *rand.Rand, room int) int {
	switch rng.IntN(4) {
	case 0:
		return max(room-9+rng.IntN(3), 0)
	case 1:
		return 64*rng.IntN(4) + 48 + rng.IntN(10)
	default:
		return rng.IntN(80)
	}
}

// P17.1: Format on what stands there already: the head behind the greatest turn, of area 0; nothing else is written.
func TestFormat(t *testing.T) {
	junk := text(5, 64*9)
	for _, c := range []struct {
		what string
		put  map[int]disk.Sector
		turn int
	}{
		{"nothing that is a head", nil, 1},
		{"a head of turn 1", map[int]disk.Sector{1: headOf(1, 0, 0)}, 2},
		{"a head of turn 2", map[int]disk.Sector{0: headOf(2, 1, 5)}, 3},
		{"the greater one first", map[int]disk.Sector{0: headOf(8, 1, 192), 1: headOf(7, 0, 3)}, 9},
		{"the greater one second", map[int]disk.Sector{0: headOf(8, 0, 0), 1: headOf(9, 1, 3)}, 10},
		{"far apart", map[int]disk.Sector{0: headOf(1<<40, 0, 0), 1: headOf(3, 1, 3)}, 1<<40 + 1},
		{"none of its own sector", map[int]disk.Sector{0: headOf(9, 0, 0), 1: headOf(8, 1, 3)}, 1},
		{"one of too many bytes", map[int]disk.Sector{0: headOf(8, 0, 193), 1: headOf(3, 1, 3)}, 4},
		{"the last turn but one", map[int]disk.Sector{0: headOf(math.MaxInt-1, 0, 0)}, math.MaxInt},
	} {
		image := slices.Clone(junk)
		for i, s := range c.put {
			copy(image[64*i:], s[:])
		}
		d := diskOf(t, image)
		l, e := log.Format(d)
		if e != api.OK {
			t.Errorf("%s: error %d", c.what, e)
			continue
		}
		s := headOf(uint64(c.turn), 0, 0)
		copy(image[64*(c.turn%2):], s[:])
		if !bytes.Equal(d.Image(), image) || d.Loose() != 0 {
			t.Errorf("%s: another image, or %d loose", c.what, d.Loose())
		}
		tells(t, c.what, l, 192, c.turn)
		_, recs := opened(t, c.what, d)
		if len(recs) != 0 {
			t.Errorf("%s: %d records", c.what, len(recs))
		}
	}
}

// P17.1: what is too small has no log; without power there is none; what isn't formatted isn't opened.
func TestErrors(t *testing.T) {
	small := []*disk.Disk{nil, new(disk.Disk), newDisk(t, 1), newDisk(t, 2), newDisk(t, 3)}
	for _, d := range small {
		for range 2 {
			if l, e := log.Format(d); l != nil || e != api.ErrArg {
				t.Errorf("Format of %d sectors: %v, error %d", d.Size(), l != nil, e)
			}
			none(t, "too small", d, api.ErrArg)
			if !bytes.Equal(d.Image(), make([]byte, 64*d.Size())) {
				t.Errorf("%d sectors were written", d.Size())
			}
			d.Fuse(1)
			d.Sync()
		}
	}
	for n := 4; n < 12; n++ {
		d := newDisk(t, n)
		none(t, "nothing", d, api.ErrMiss)
		d.Fuse(1)
		d.Sync()
		none(t, "nothing, and no power", d, api.ErrMiss)
		if l, e := log.Format(d); l != nil || e != api.ErrDown {
			t.Errorf("Format without power: %v, error %d", l != nil, e)
		}
		for fuse := 1; fuse < 3; fuse++ {
			d.Crash(nil)
			none(t, "a crash in Format", d, api.ErrMiss)
			d.Fuse(fuse)
			if l, e := log.Format(d); l != nil || e != api.ErrDown || d.Loose() != 1 {
				t.Errorf("Format at a fuse: %v, error %d, %d loose", l != nil, e, d.Loose())
			}
			none(t, "a head, and no power", d, api.ErrDown)
		}
		d.Crash([]bool{true})
		opened(t, "its head stayed", d)
	}
}

// P17.1: Open writes nothing, not even what a fuse counts.
func TestOpenWritesNothing(t *testing.T) {
	d, l := formatted(t, 8)
	is(t, "Append", l.Append(text(1, 70)), api.OK)
	was := d.Image()
	d.Fuse(1)
	opened(t, "at a fuse", d)
	if d.Off() || d.Loose() != 0 || !bytes.Equal(d.Image(), was) {
		t.Error("Open writes")
	}
	is(t, "the fuse is there", d.Sync(), api.ErrDown)
}

// someHeads: a disk of 8 sectors (room 192), with records in both areas: of area 0 two, of area 1 one.
func someHeads(t *testing.T, heads ...disk.Sector) *disk.Disk {
	t.Helper()
	image := make([]byte, 64*8)
	copy(image[128:], recordsOf(texts(20, 30)))
	copy(image[320:], recordsOf(texts(100)))
	for i, s := range heads {
		copy(image[64*i:], s[:])
	}
	return diskOf(t, image)
}

// with: a sector with one byte set.
func with(s disk.Sector, at int, b byte) disk.Sector {
	s[at] = b
	return s
}

// closedAs: a sector of these parts, with their check, and noughts behind.
func closedAs(b ...byte) disk.Sector {
	var s disk.Sector
	copy(s[:], checked(b))
	return s
}

// P17.1: which sectors are heads, and which of them is the log's.
func TestHeads(t *testing.T) {
	zero := disk.Sector{}
	good := headOf(2, 0, 66)
	inner := func(s disk.Sector) []byte { return slices.Clone(s[:18]) }
	wrong := map[string]disk.Sector{
		"noughts":                 zero,
		"turn 0":                  headOf(0, 0, 66),
		"an odd turn":             headOf(3, 0, 66),
		"a turn that is no int":   headOf(1<<63, 0, 66),
		"the greatest turn":       headOf(math.MaxUint64-1, 0, 66),
		"area 2":                  headOf(2, 2, 66),
		"area 255":                headOf(2, 255, 66),
		"more than Room":          headOf(2, 0, 193),
		"far more than Room":      headOf(2, 0, 1<<40),
		"a count that is no int":  headOf(2, 0, 1<<63),
		"the greatest count":      headOf(2, 0, math.MaxUint64),
		"another mark":            closedAs(append([]byte{0x6b}, inner(good)[1:]...)...),
		"another mark, above":     closedAs(append([]byte{0x6d}, inner(good)[1:]...)...),
		"no mark":                 closedAs(append([]byte{0}, inner(good)[1:]...)...),
		"a byte too many":         closedAs(append(inner(good), 0)...),
		"a byte too few":          closedAs(inner(good)[:17]...),
		"no check":                disk.Sector(append(inner(good), make([]byte, 46)...)),
		"something behind":        with(good, 22, 1),
		"something at the end":    with(good, 63, 1),
		"another check":           with(good, 18, good[18]^1),
		"the check highest first": disk.Sector(slices.Concat(inner(good), []byte{good[21], good[20], good[19], good[18]}, make([]byte, 42))),
	}
	for what, s := range wrong {
		none(t, what, someHeads(t, s), api.ErrMiss)
		if what != "an odd turn" {
			none(t, what+", twice", someHeads(t, s, s), api.ErrMiss)
		}
		l, recs := opened(t, what, someHeads(t, s, headOf(1, 1, 108)))
		tells(t, what, l, 192-108, 1)
		if !equal(recs, texts(100)) {
			t.Errorf("%s: %d records", what, len(recs))
		}
	}
	none(t, "turn 1 in sector 0, turn 2 in sector 1", someHeads(t, headOf(1, 0, 66), headOf(2, 0, 66)), api.ErrMiss)
	none(t, "a head in sector 2", someHeads(t, zero, zero, headOf(2, 0, 0)), api.ErrMiss)
}

// P17.1: the head with the greatest turn is the log's, wherever it stands.
func TestGreatestTurn(t *testing.T) {
	both := [][][]byte{texts(20, 30), texts(100)}
	counts := []uint64{66, 108}
	for _, first := range []uint64{2, 4, 256, 1 << 32, 1 << 40, math.MaxInt - 1} {
		for _, second := range []uint64{1, 3, 255, 257, 1<<32 + 1, 1<<40 + 1, math.MaxInt} {
			for area := range 2 {
				d := someHeads(t, headOf(first, byte(area), counts[area]), headOf(second, byte(1-area), counts[1-area]))
				l, recs := opened(t, "two heads", d)
				want := area
				if second > first {
					want = 1 - area
				}
				tells(t, "two heads", l, 192-int(counts[want]), int(max(first, second)))
				if !equal(recs, both[want]) {
					t.Errorf("turns %d, %d: %d records, not those of area %d", first, second, len(recs), want)
				}
			}
		}
	}
}

// P17.1: a head of which a bit is changed is none.
func TestHeadsBits(t *testing.T) {
	d, l := formatted(t, 6)
	is(t, "Append", l.Append(text(1, 9)), api.OK)
	is(t, "Append", l.Append(text(2, 8)), api.OK)
	for at := range 64 * 8 {
		image := d.Image()
		image[64+at/8] ^= 1 << (at % 8)
		o, recs := opened(t, "the elder one", diskOf(t, image))
		tells(t, "the elder one", o, 128-17, 2)
		if !equal(recs, [][]byte{text(1, 9)}) {
			t.Errorf("bit %d: %d records", at, len(recs))
		}
		image[at/8] ^= 1 << (at % 8)
		none(t, "both", diskOf(t, image), api.ErrMiss)
	}
}

// P17.1: behind a turn that is the greatest int there is none: nothing has room, and nothing is changed.
func TestLastTurn(t *testing.T) {
	d := someHeads(t, headOf(2, 1, 108), headOf(math.MaxInt, 0, 66))
	was := d.Image()
	l, recs := opened(t, "the last turn", d)
	is(t, "Append", l.Append(nil), api.ErrFull)
	is(t, "Replace", l.Replace(nil), api.ErrFull)
	if o, e := log.Format(d); o != nil || e != api.ErrFull {
		t.Errorf("Format: %v, error %d", o != nil, e)
	}
	if !bytes.Equal(d.Image(), was) || !equal(recs, texts(20, 30)) {
		t.Error("something was changed, or other records")
	}
	tells(t, "the last turn", l, 192-66, math.MaxInt)
	d = someHeads(t, headOf(math.MaxInt-1, 0, 66))
	l, _ = opened(t, "the last turn but one", d)
	is(t, "Append", l.Append(nil), api.OK)
	is(t, "Append", l.Append(nil), api.ErrFull)
	tells(t, "the last turn", l, 192-74, math.MaxInt)
}

// P17.1: the first bytes that are no record's, or go beyond the count, end the log; what it writes then comes behind what it told.
func TestEnd(t *testing.T) {
	recs := texts(20, 0, 30, 40)
	all := recordsOf(recs)
	ends := []int{0, 28, 36, 74, 122}
	for count := range 193 {
		image := make([]byte, 64*8)
		copy(image[128:], all)
		s := headOf(2, 0, uint64(count))
		copy(image, s[:])
		d := diskOf(t, image)
		l, got := opened(t, "a count", d)
		n := 0
		for n < 4 && ends[n+1] <= count {
			n++
		}
		tells(t, "a count", l, 192-ends[n], 2)
		if !equal(got, recs[:n]) {
			t.Errorf("count %d: %d records, want %d", count, len(got), n)
		}
		m := &model{image: image, recs: recs[:n], turn: 2}
		is(t, "Append", l.Append(text(9, 33)), m.add(text(9, 33)))
		m.same(t, "behind an Append", d, l)
	}
}

// P17.1: a record of which a bit is changed ends the log.
func TestRecordsBits(t *testing.T) {
	recs := texts(20, 11, 30)
	begin, end := log.Size(recs[0]), log.Size(recs[0])+log.Size(recs[1])
	for at := begin * 8; at < end*8; at++ {
		all := recordsOf(recs)
		all[at/8] ^= 1 << (at % 8)
		image := make([]byte, 64*8)
		copy(image[128:], all)
		s := headOf(2, 0, uint64(len(all)))
		copy(image, s[:])
		l, got := opened(t, "a bit", diskOf(t, image))
		tells(t, "a bit", l, 192-begin, 2)
		if !equal(got, recs[:1]) {
			t.Errorf("bit %d: %d records", at, len(got))
		}
	}
}

// P17.1: records of no bytes, as many as have room; and one that has all the room, of the largest disk too.
func TestManyAndLarge(t *testing.T) {
	for _, n := range []int{4, 5, 64, 8191, 8192} {
		d, l := formatted(t, n)
		room := log.Room(n)
		is(t, "many", l.Replace(make([][]byte, room/8)), api.OK)
		is(t, "one more", l.Append(nil), api.ErrFull)
		o, recs := opened(t, "many", d)
		tells(t, "many", o, 0, 2)
		if len(recs) != room/8 {
			t.Errorf("%d sectors: %d records", n, len(recs))
		}
		is(t, "too many", l.Replace(make([][]byte, room/8+1)), api.ErrFull)
		is(t, "none", l.Replace(nil), api.OK)
		is(t, "too large", l.Append(make([]byte, room-7)), api.ErrFull)
		is(t, "large", l.Append(text(3, room-8)), api.OK)
		o, recs = opened(t, "large", d)
		tells(t, "large", o, 0, 4)
		if !equal(recs, [][]byte{text(3, room-8)}) {
			t.Errorf("%d sectors: %d records", n, len(recs))
		}
	}
}

// P17.1: what is written, and when: the records' sectors, a Sync, the head, a Sync.
func TestOrder(t *testing.T) {
	for _, c := range []struct {
		what    string
		sectors int
		do      func(l *log.Log) api.Errno
	}{
		{"within a sector", 1, func(l *log.Log) api.Errno { return l.Append(text(1, 10)) }},
		{"up to its end", 1, func(l *log.Log) api.Errno { return l.Append(text(1, 64-38-8)) }},
		{"beyond its end", 2, func(l *log.Log) api.Errno { return l.Append(text(1, 64-38-7)) }},
		{"of three sectors", 3, func(l *log.Log) api.Errno { return l.Append(text(1, 120)) }},
		{"another one's", 2, func(l *log.Log) api.Errno { return l.Replace(texts(20, 57)) }},
		{"another one's, just", 1, func(l *log.Log) api.Errno { return l.Replace(texts(20, 28)) }},
		{"of none", 0, func(l *log.Log) api.Errno { return l.Replace(nil) }},
	} {
		base, first := formatted(t, 12)
		is(t, "Append", first.Append(text(0, 30)), api.OK)
		was := base.Image()
		for fuse := 1; fuse <= c.sectors+4; fuse++ {
			d := diskOf(t, was)
			l, _ := opened(t, c.what, d)
			d.Fuse(fuse)
			want, loose := api.ErrDown, 1
			switch {
			case fuse <= c.sectors+1:
				loose = min(fuse, c.sectors)
			case fuse > c.sectors+3:
				want, loose = api.OK, 0
			}
			is(t, c.what, c.do(l), want)
			told := fuse > c.sectors+1 // the head is there
			if d.Loose() != loose || d.Off() != (want == api.ErrDown) || bytes.Equal(d.Image()[64:128], was[64:128]) == told || !bytes.Equal(d.Image()[:64], was[:64]) {
				t.Errorf("%s, at fuse %d: %d loose, want %d, or a head at another time", c.what, fuse, d.Loose(), loose)
			}
		}
	}
}

// stays: all that a crash may leave of so many loose writes.
func stays(loose int) [][]bool {
	var out [][]bool
	for bits := range 1 << loose {
		stay := make([]bool, loose)
		for k := range stay {
			stay[k] = bits>>k&1 == 1
		}
		out = append(out, stay)
	}
	return out
}

// call: one of a log, and the records behind it.
type call struct {
	what string
	do   func(d *disk.Disk, l *log.Log) api.Errno
	next func(recs [][]byte) [][]byte
}

func appends(n, size int) call {
	return call{"Append",
		func(d *disk.Disk, l *log.Log) api.Errno { return l.Append(text(n, size)) },
		func(recs [][]byte) [][]byte { return append(slices.Clone(recs), text(n, size)) }}
}

func replaces(recs [][]byte) call {
	return call{"Replace",
		func(d *disk.Disk, l *log.Log) api.Errno { return l.Replace(recs) },
		func([][]byte) [][]byte { return recs }}
}

func formats() call {
	return call{"Format",
		func(d *disk.Disk, l *log.Log) api.Errno { _, e := log.Format(d); return e },
		func([][]byte) [][]byte { return nil }}
}

// P17.2: each call, behind several others, at each fuse, whatever a crash leaves; and a second crash in the next call.
func TestCrash(t *testing.T) {
	calls := []call{appends(1, 30), appends(2, 64), appends(3, 150), appends(4, 0), replaces(texts(9, 8)), replaces(texts(70, 60)), replaces(nil), formats()}
	for _, ahead := range [][]call{nil, {appends(5, 50)}, {appends(5, 56), appends(6, 3)}, {appends(5, 50), replaces(texts(33))}, {appends(5, 99), formats()}, {replaces(texts(60, 60)), appends(7, 2)}} {
		d, l := formatted(t, 20)
		var recs [][]byte
		for _, c := range ahead {
			is(t, "ahead: "+c.what, c.do(d, l), api.OK)
			recs = c.next(recs)
			l, _ = opened(t, "ahead", d)
		}
		for _, c := range calls {
			crashed(t, d.Image(), recs, c, func(image []byte, recs [][]byte) {
				for _, second := range calls {
					crashed(t, image, recs, second, nil)
				}
			})
		}
	}
}

// crashed: a call on these bytes, at each fuse, with each crash: the records are as ahead, or as behind it; then goes on, with each.
func crashed(t *testing.T, image []byte, recs [][]byte, c call, then func(image []byte, recs [][]byte)) {
	t.Helper()
	for fuse := 1; ; fuse++ {
		first := diskOf(t, image)
		l, _ := opened(t, c.what, first)
		first.Fuse(fuse)
		e := c.do(first, l)
		for _, stay := range stays(first.Loose()) {
			d := diskOf(t, image)
			l, _ := opened(t, c.what, d)
			d.Fuse(fuse)
			is(t, c.what, c.do(d, l), e)
			d.Crash(stay)
			_, got, err := log.Open(d)
			if err != api.OK || !equal(got, c.next(recs)) && (e == api.OK || !equal(got, recs)) {
				t.Fatalf("%s, fuse %d, %v: %d records, error %d, were %d", c.what, fuse, stay, len(got), err, len(recs))
			}
			if then != nil {
				then(d.Image(), got)
			}
		}
		if e != api.ErrDown {
			is(t, c.what, e, api.OK)
			return
		}
	}
}

// P17.2: drawn calls, with a crash now and then: nothing that was answered is lost.
func TestDrawnCrashes(t *testing.T) {
	for seed := range uint64(150) {
		rng := rand.New(rand.NewPCG(seed, 18))
		d, l := formatted(t, 5+rng.IntN(16))
		var recs [][]byte
		for step := range 60 {
			d.Fuse(rng.IntN(15))
			c := appends(step, rng.IntN(120))
			if rng.IntN(4) == 0 {
				c = replaces(texts(rng.IntN(60), rng.IntN(60)))
			}
			e := c.do(d, l)
			if e == api.OK {
				recs = c.next(recs)
			}
			if e != api.ErrDown {
				continue
			}
			stay := make([]bool, d.Loose())
			for i := range stay {
				stay[i] = rng.IntN(2) == 0
			}
			d.Crash(stay)
			var got [][]byte
			l, got = opened(t, "drawn", d)
			if !equal(got, recs) && !equal(got, c.next(recs)) {
				t.Fatalf("seed %d, step %d: %d records, were %d", seed, step, len(got), len(recs))
			}
			recs = got
		}
	}
}

// P17.3: what has no room writes nothing, and changes nothing; what just has room is taken.
func TestFull(t *testing.T) {
	for n := 4; n < 12; n++ {
		d, l := formatted(t, n)
		for step := range 3 {
			left, room, turn := l.Left(), log.Room(n), l.Turn()
			was := d.Image()
			d.Fuse(1)
			for _, over := range []int{1, 2, 64, 1000, 300_000} {
				if left >= 8 {
					is(t, "Append", l.Append(make([]byte, left-8+over)), api.ErrFull)
				}
				is(t, "Replace", l.Replace([][]byte{make([]byte, room-8+over)}), api.ErrFull)
				is(t, "Replace of two", l.Replace([][]byte{make([]byte, room-16), make([]byte, over)}), api.ErrFull)
			}
			tells(t, "full", l, left, turn)
			if d.Off() || d.Loose() != 0 || !bytes.Equal(d.Image(), was) {
				t.Errorf("%d sectors: something was written", n)
			}
			d.Fuse(0)
			switch step {
			case 0:
				is(t, "just", l.Append(text(1, left-20)), api.OK)
			case 1:
				is(t, "just", l.Append(text(2, left-8)), api.OK)
				is(t, "nothing is left", l.Append(nil), api.ErrFull)
			}
		}
		is(t, "just", l.Replace([][]byte{text(3, log.Room(n)-8)}), api.OK)
		tells(t, "just", l, 0, 4)
	}
}

// P17.1: behind ErrDown a log is of no use any more, also when the power is on again: it writes nothing.
func TestDown(t *testing.T) {
	for fuse := 1; fuse <= 5; fuse++ {
		for _, c := range []call{appends(1, 60), replaces(texts(60))} {
			d, l := formatted(t, 9)
			is(t, "ahead", l.Append(text(8, 20)), api.OK)
			left, turn := l.Left(), l.Turn()
			d.Fuse(fuse)
			if c.do(d, l) == api.OK {
				continue
			}
			for range 3 {
				was, loose := d.Image(), d.Loose()
				is(t, "Append", l.Append([]byte("x")), api.ErrDown)
				is(t, "Replace", l.Replace(nil), api.ErrDown)
				is(t, "Append of too much", l.Append(make([]byte, left-7)), api.ErrFull)
				is(t, "Replace by too much", l.Replace(texts(300)), api.ErrFull)
				tells(t, "down", l, left, turn)
				if d.Loose() != loose || !bytes.Equal(d.Image(), was) {
					t.Errorf("fuse %d: it writes", fuse)
				}
				d.Crash([]bool{true})
			}
		}
	}
	d, l := formatted(t, 9)
	d.Fuse(1)
	d.Sync()
	is(t, "no power", l.Append(nil), api.ErrDown)
	d.Crash(nil)
	is(t, "power again", l.Append(nil), api.ErrDown)
}

// roomy: b with spare room behind it, and a look whether any of it was changed.
func roomy(b []byte) ([]byte, func() bool) {
	whole := append(slices.Clone(b), bytes.Repeat([]byte{0xee}, 80)...)
	was := slices.Clone(whole)
	return whole[:len(b)], func() bool { return !bytes.Equal(whole, was) }
}

// spoil writes over bytes, and behind them.
func spoil(b []byte) {
	for i := range b {
		b[i] ^= 0x55
	}
	_ = append(b, 1, 2, 3)
}

// P17.4: what is handed in isn't changed or kept; what is told is new memory.
func TestNewMemory(t *testing.T) {
	d, l := formatted(t, 12)
	a, changedA := roomy(text(1, 50))
	is(t, "Append", l.Append(a), api.OK)
	was := d.Image()
	if log.Size(a) != 58 || changedA() {
		t.Error("Append changes what is handed in")
	}
	spoil(a)
	b, changedB := roomy(text(2, 33))
	c, changedC := roomy(text(3, 66))
	list := [][]byte{b, c, text(9, 9)}
	if !bytes.Equal(d.Image(), was) {
		t.Error("Append shares memory")
	}
	is(t, "Replace", l.Replace(list[:2]), api.OK)
	if changedB() || changedC() || !equal(list, [][]byte{b, c, text(9, 9)}) {
		t.Error("Replace changes what is handed in")
	}
	spoil(b)
	list[0], list[1] = nil, nil
	is(t, "Append", l.Append(nil), api.OK)
	was = d.Image()
	want := [][]byte{text(2, 33), text(3, 66), nil}
	_, first := opened(t, "first", d)
	_, second := opened(t, "second", d)
	spoil(first[0])
	if !equal(first[1:], want[1:]) || !equal(second, want) {
		t.Error("what is told shares memory")
	}
	spoil(first[1])
	first[2] = []byte("x")
	_ = append(first[:1], nil)
	if _, third := opened(t, "third", d); !equal(third, want) || !equal(second, want) || !bytes.Equal(d.Image(), was) {
		t.Error("what is told shares memory")
	}
}

// P1, P17.1: a nil log, and one that neither Format nor Open made.
func TestNil(t *testing.T) {
	for _, l := range []*log.Log{nil, new(log.Log)} {
		is(t, "Append", l.Append(nil), api.ErrArg)
		is(t, "Append", l.Append(make([]byte, 300_000)), api.ErrArg)
		is(t, "Replace", l.Replace(nil), api.ErrArg)
		is(t, "Replace", l.Replace(make([][]byte, 300_000)), api.ErrArg)
		tells(t, "nil", l, 0, 0)
	}
}

// P1: all calls end, without a panic, on disks of drawn bytes.
func TestDrawnBytes(t *testing.T) {
	rng := rand.New(rand.NewPCG(1, 19))
	for range 3000 {
		n := 4 + rng.IntN(8)
		image := make([]byte, 64*n)
		for range rng.IntN(200) {
			image[rng.IntN(len(image))] = byte(rng.Uint32())
		}
		for i := range 2 {
			s := headOf(uint64(rng.IntN(5)), byte(rng.IntN(3)), uint64(rng.IntN(64*n)))
			copy(image[64*i:], s[:])
		}
		copy(image[128+rng.IntN(3)*64:], recordsOf(texts(rng.IntN(40), rng.IntN(40))))
		d := diskOf(t, image)
		l, recs, e := log.Open(d)
		if e != api.OK {
			continue
		}
		if l.Left() != log.Room(n)-len(recordsOf(recs)) {
			t.Errorf("%d left", l.Left())
		}
		if e := l.Append(text(1, 20)); e == api.OK {
			recs = append(recs, text(1, 20))
		}
		if _, got := opened(t, "drawn", d); !equal(got, recs) {
			t.Errorf("%d records, want %d", len(got), len(recs))
		}
	}
}
