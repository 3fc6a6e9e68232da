package disk_test

import (
	"bytes"
	"math"
	"math/rand/v2"
	"slices"
	"testing"

	"casket/api"
	"casket/disk"
)

const most = 8192

// text: a sector of bytes that differ, by a number.
func text(n int) disk.Sector {
	var s disk.Sector
	for i := range s {
		s[i] = byte(n*29 + i*7 + 1)
	}
	return s
}

func made(t *testing.T, n int) *disk.Disk {
	t.Helper()
	d, e := disk.New(n)
	if d == nil || e != api.OK {
		t.Fatalf("New(%d): %v, error %d", n, d, e)
	}
	return d
}

// reads: a sector is read as this, without an error.
func reads(t *testing.T, what string, d *disk.Disk, at int, want disk.Sector) {
	t.Helper()
	if got, e := d.Read(at); got != want || e != api.OK {
		t.Errorf("%s: sector %d is %x, error %d, want %x", what, at, got[:4], e, want[:4])
	}
}

// is: an answered error is this one.
func is(t *testing.T, what string, got, want api.Errno) {
	t.Helper()
	if got != want {
		t.Errorf("%s: error %d, want %d", what, got, want)
	}
}

// state: how many writes are loose, and is the power off?
func state(t *testing.T, what string, d *disk.Disk, loose int, off bool) {
	t.Helper()
	if d.Loose() != loose || d.Off() != off {
		t.Errorf("%s: %d loose, off %v, want %d, %v", what, d.Loose(), d.Off(), loose, off)
	}
}

// model: a disk as the chapter tells it: what was synced, and all writes since.
type model struct {
	kept  []disk.Sector
	at    []int
	loose []disk.Sector
	fuse  int
	off   bool
}

func (m *model) read() []disk.Sector {
	out := slices.Clone(m.kept)
	for i, at := range m.at {
		out[at] = m.loose[i]
	}
	return out
}

// goes: one write or Sync more; what does it tell?
func (m *model) goes() api.Errno {
	if m.fuse--; m.fuse == 0 {
		m.off = true
		return api.ErrDown
	}
	return api.OK
}

func (m *model) write(at int, s disk.Sector) api.Errno {
	if m.off {
		return api.ErrDown
	}
	if at < 0 || at >= len(m.kept) {
		return api.ErrArg
	}
	m.at, m.loose = append(m.at, at), append(m.loose, s)
	return m.goes()
}

func (m *model) sync() api.Errno {
	if m.off {
		return api.ErrDown
	}
	if e := m.goes(); e != api.OK {
		return e
	}
	m.kept = m.read()
	m.at, m.loose = nil, nil
	return api.OK
}

func (m *model) crash(stay []bool) {
	for i, at := range m.at {
		if i < len(stay) && stay[i] {
			m.kept[at] = m.loose[i]
		}
	}
	*m = model{kept: m.kept}
}

// same: the disk tells all that the model tells.
func same(t *testing.T, step int, d *disk.Disk, m *model) {
	t.Helper()
	var image []byte
	for i, s := range m.read() {
		image = append(image, s[:]...)
		want, wantErr := s, api.OK
		if m.off {
			want, wantErr = disk.Sector{}, api.ErrDown
		}
		if got, e := d.Read(i); got != want || e != wantErr {
			t.Fatalf("step %d: sector %d: %x, error %d, want %x, error %d", step, i, got[:4], e, want[:4], wantErr)
		}
	}
	if got := d.Image(); !bytes.Equal(got, image) {
		t.Fatalf("step %d: an image of %d bytes, of %d, or other ones", step, len(got), len(image))
	}
	if d.Size() != len(m.kept) || d.Loose() != len(m.at) || d.Off() != m.off {
		t.Fatalf("step %d: %d sectors, %d loose, off %v, want %d, %d, %v", step, d.Size(), d.Loose(), d.Off(), len(m.kept), len(m.at), m.off)
	}
}

// drawnStep: does one thing, of all kinds, with both; the same errors?
func drawnStep(rng *rand.Rand, d *disk.Disk, m *model) bool {
	switch k := rng.IntN(20); {
	case k < 11:
		at, s := rng.IntN(len(m.kept)+2)-1, text(rng.IntN(250))
		return d.Write(at, s) == m.write(at, s)
	case k < 14:
		return d.Sync() == m.sync()
	case k < 17:
		n := rng.IntN(12) - 2
		d.Fuse(n)
		m.fuse = max(n, 0)
	default:
		stay := make([]bool, rng.IntN(8))
		for i := range stay {
			stay[i] = rng.IntN(2) == 0
		}
		d.Crash(stay)
		m.crash(stay)
	}
	return true
}

// P16.1: the chapter's example.
func TestExample(t *testing.T) {
	d := made(t, 3)
	is(t, "first", d.Write(1, text(1)), api.OK)
	is(t, "second", d.Write(1, text(2)), api.OK)
	reads(t, "written", d, 1, text(2))
	d.Crash([]bool{true, false})
	reads(t, "behind a crash", d, 1, text(1))
	state(t, "behind a crash", d, 0, false)
}

// P16.1: how many sectors a disk may have; they are of noughts.
func TestNew(t *testing.T) {
	for _, n := range []int{math.MinInt, -most, -1, 0, most + 1, most + 2, 2 * most, 1 << 40, math.MaxInt} {
		if d, e := disk.New(n); d != nil || e != api.ErrArg {
			t.Errorf("New(%d): %v, error %d", n, d != nil, e)
		}
	}
	for _, n := range []int{1, 2, 3, 64, most - 1, most} {
		d := made(t, n)
		state(t, "new", d, 0, false)
		if d.Size() != n || !bytes.Equal(d.Image(), make([]byte, 64*n)) {
			t.Errorf("New(%d): %d sectors, an image of %d bytes", n, d.Size(), len(d.Image()))
		}
		reads(t, "new", d, 0, disk.Sector{})
		reads(t, "new", d, n-1, disk.Sector{})
		is(t, "the last one", d.Write(n-1, text(1)), api.OK)
		reads(t, "the last one", d, n-1, text(1))
		is(t, "behind the last one", d.Write(n, text(1)), api.ErrArg)
	}
}

// P16.1, P16.2: all calls, drawn, as the chapter tells them.
func TestDrawn(t *testing.T) {
	for seed := range uint64(300) {
		rng := rand.New(rand.NewPCG(seed, 16))
		n := 1 + rng.IntN(6)
		d, m := made(t, n), &model{kept: make([]disk.Sector, n)}
		for step := range 120 {
			if !drawnStep(rng, d, m) {
				t.Fatalf("seed %d, step %d: another error", seed, step)
			}
			same(t, step, d, m)
		}
	}
}

// P16.1: there is no such sector; that the power is off is told ahead of it.
func TestErrors(t *testing.T) {
	for _, at := range []int{math.MinInt, -1, 4, 5, 64, math.MaxInt} {
		d := made(t, 4)
		for _, want := range []api.Errno{api.ErrArg, api.ErrDown} {
			if s, e := d.Read(at); s != (disk.Sector{}) || e != want {
				t.Errorf("Read(%d): %x, error %d, want %d", at, s[:4], e, want)
			}
			is(t, "Write", d.Write(at, text(1)), want)
			state(t, "refused", d, 0, d.Off())
			d.Fuse(1)
			d.Sync()
		}
	}
}

// P16.1: without power all is refused, and changes nothing; what was written is in the image.
func TestOff(t *testing.T) {
	d := made(t, 2)
	d.Write(0, text(1))
	d.Fuse(1)
	is(t, "Write at the fuse", d.Write(1, text(2)), api.ErrDown)
	whole := text(1)
	next := text(2)
	for range 3 {
		if s, e := d.Read(1); s != (disk.Sector{}) || e != api.ErrDown {
			t.Errorf("Read: %x, error %d", s[:4], e)
		}
		is(t, "Write", d.Write(0, text(3)), api.ErrDown)
		is(t, "Sync", d.Sync(), api.ErrDown)
		state(t, "off", d, 2, true)
		if d.Size() != 2 || !bytes.Equal(d.Image(), append(whole[:], next[:]...)) {
			t.Errorf("off: %d sectors, or another image", d.Size())
		}
		d.Fuse(0)
	}
	d.Crash([]bool{true, true, true})
	state(t, "on again", d, 0, false)
	reads(t, "on again", d, 0, text(1))
	reads(t, "on again", d, 1, text(2))
}

// P16.1: at the n-th write or Sync the power goes off: of those that aren't refused, and not ahead of it.
func TestFuse(t *testing.T) {
	for n := 1; n < 12; n++ {
		d := made(t, 2)
		d.Fuse(n)
		for i := 1; i < n; i++ {
			if i%3 == 0 {
				is(t, "Sync ahead", d.Sync(), api.OK)
			} else {
				is(t, "Write ahead", d.Write(i%2, text(i)), api.OK)
			}
			is(t, "refused", d.Write(2, text(i)), api.ErrArg)
			is(t, "refused", d.Write(-1, text(i)), api.ErrArg)
			d.Read(0)
			d.Image()
		}
		was := d.Loose()
		if n%2 == 0 {
			is(t, "Sync", d.Sync(), api.ErrDown)
			state(t, "Sync", d, was, true)
		} else {
			is(t, "Write", d.Write(1, text(99)), api.ErrDown)
			state(t, "Write", d, was+1, true)
		}
	}
}

// P16.1: a Sync at the fuse isn't done: a crash may still take what was written.
func TestSyncAtFuse(t *testing.T) {
	d := made(t, 1)
	d.Write(0, text(1))
	d.Fuse(1)
	is(t, "Sync", d.Sync(), api.ErrDown)
	d.Crash(nil)
	reads(t, "taken", d, 0, disk.Sector{})
}

// P16.1: the last Fuse holds; of 0 and below there is none; it is gone when the power went off by it, and with a crash.
func TestFuseAnew(t *testing.T) {
	for _, n := range []int{0, -1, -7, math.MinInt} {
		d := made(t, 1)
		d.Fuse(2)
		d.Fuse(n)
		for range 20 {
			is(t, "Write without a fuse", d.Write(0, text(1)), api.OK)
			is(t, "Sync without a fuse", d.Sync(), api.OK)
		}
	}
	d := made(t, 1)
	d.Fuse(1)
	d.Fuse(3)
	is(t, "1 of 3", d.Write(0, text(1)), api.OK)
	is(t, "2 of 3", d.Sync(), api.OK)
	is(t, "3 of 3", d.Sync(), api.ErrDown)
	d.Fuse(1)
	d.Crash(nil)
	is(t, "behind a crash", d.Write(0, text(2)), api.OK)
	d.Fuse(1)
	d.Crash(nil)
	is(t, "behind a crash with power", d.Sync(), api.OK)
	d.Fuse(math.MaxInt)
	is(t, "far away", d.Sync(), api.OK)
	state(t, "far away", d, 0, false)
}

// P16.1, P16.2: of up to five loose writes, of one sector and of several ones, all that a crash may leave.
func TestCrash(t *testing.T) {
	for _, places := range [][]int{nil, {0}, {0, 0}, {1, 0, 1}, {0, 0, 0, 0}, {0, 1, 2, 0, 1}, {2, 2, 0, 2, 2}} {
		for bits := range 1 << len(places) {
			for given := range len(places) + 3 {
				d := made(t, 4)
				for i := range 4 {
					d.Write(i, text(100+i))
				}
				d.Sync()
				want := []disk.Sector{text(100), text(101), text(102), text(103)}
				stay := make([]bool, given)
				for k := range stay {
					stay[k] = bits>>k&1 == 1 || k >= len(places)
				}
				for k, at := range places {
					d.Write(at, text(k))
					if k < given && stay[k] {
						want[at] = text(k)
					}
				}
				d.Crash(stay)
				state(t, "Crash", d, 0, false)
				for i, s := range want {
					reads(t, "Crash", d, i, s)
				}
				d.Crash([]bool{true, true, true, true, true})
				for i, s := range want {
					reads(t, "Crash twice", d, i, s)
				}
			}
		}
	}
}

// P16.2: what was synced stays, whatever a crash takes of what was written since.
func TestSynced(t *testing.T) {
	d := made(t, most)
	for i := range most {
		d.Write(i, text(i))
	}
	is(t, "Sync", d.Sync(), api.OK)
	state(t, "synced", d, 0, false)
	for i := 0; i < most; i += 2 {
		d.Write(i, text(i+1))
	}
	d.Crash(nil)
	for i := range most {
		reads(t, "synced", d, i, text(i))
	}
}

// P16.3: an image is new memory, a crash's list isn't changed or kept, and what was read or written may be written over.
func TestNewMemory(t *testing.T) {
	d := made(t, 2)
	s := text(1)
	d.Write(0, s)
	s[0]++
	reads(t, "what was handed in is changed", d, 0, text(1))
	got, _ := d.Read(0)
	got[1]++
	reads(t, "what was read is changed", d, 0, text(1))
	image := d.Image()
	other := d.Image()
	for i := range image {
		image[i] ^= 0x55
	}
	_ = append(image, 1, 2, 3)
	reads(t, "an image is changed", d, 0, text(1))
	if first := text(1); !bytes.Equal(other, append(first[:], make([]byte, 64)...)) {
		t.Error("two images share memory")
	}
	d.Write(1, text(2))
	stay := []bool{true, false, true, true}
	d.Crash(stay[:2])
	if !slices.Equal(stay, []bool{true, false, true, true}) {
		t.Errorf("Crash changed its list: %v", stay)
	}
	stay[1] = true
	reads(t, "a crash's list is changed", d, 0, text(1))
	reads(t, "a crash's list is changed", d, 1, disk.Sector{})
}

// P1, P16.1: a nil disk, and one that New didn't make.
func TestNil(t *testing.T) {
	for what, d := range map[string]*disk.Disk{"nil": nil, "zero": new(disk.Disk)} {
		for _, at := range []int{0, -1, 1, math.MinInt, math.MaxInt} {
			d.Fuse(at)
			if s, e := d.Read(at); s != (disk.Sector{}) || e != api.ErrArg {
				t.Errorf("%s: Read(%d): %x, error %d", what, at, s, e)
			}
			is(t, what, d.Write(at, text(1)), api.ErrArg)
			is(t, what, d.Sync(), api.ErrArg)
			d.Crash(nil)
			d.Crash([]bool{true, false})
			state(t, what, d, 0, true)
			if d.Size() != 0 || len(d.Image()) != 0 {
				t.Errorf("%s: %d sectors, an image of %d bytes", what, d.Size(), len(d.Image()))
			}
		}
	}
}
