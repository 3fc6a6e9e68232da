package shelf_test

import (
	"bytes"
	"cmp"
	"encoding/binary"
	"maps"
	"math"
	"math/rand/v2"
	"slices"
	"testing"

	"casket/api"
	"casket/disk"
	"casket/dot"
	"casket/log"
	"casket/shelf"
	"casket/sibling"
)

const replicas = 8

func at(client, number int) api.Dot { return api.Dot{Client: client, Number: number} }

// one: a write of some body, that has seen these dots.
func one(d api.Dot, body string, seen ...api.Dot) sibling.Sibling {
	var c dot.Context
	for _, s := range seen {
		c, _ = dot.Add(c, s)
	}
	return sibling.Sibling{Dot: d, Past: c, Body: []byte(body)}
}

func setOf(l ...sibling.Sibling) []sibling.Sibling { return l }

// many: siblings of one client that have seen nothing.
func many(client, n int) []sibling.Sibling {
	var out []sibling.Sibling
	for i := range n {
		out = append(out, one(at(client, i+1), "m"))
	}
	return out
}

// keyOf: a key that differs from others in its first byte, or in its last one.
func keyOf(first, last byte) api.Blind {
	var k api.Blind
	k[0], k[31] = first, last
	return k
}

// someKeys: rising.
func someKeys() []api.Blind {
	return []api.Blind{keyOf(0, 0), keyOf(0, 1), keyOf(0, 255), keyOf(1, 0), keyOf(127, 9), keyOf(128, 9), keyOf(255, 255)}
}

// copied: a list that shares nothing.
func copied(l []sibling.Sibling) []sibling.Sibling {
	out := slices.Clone(l)
	for i, s := range out {
		out[i].Past.More = slices.Clone(s.Past.More)
		out[i].Body = slices.Clone(s.Body)
	}
	return out
}

// written: a set's bytes.
func written(l []sibling.Sibling) []byte {
	b, _ := sibling.Write(l)
	return b
}

// recordOf: a record's bytes, as the chapter tells them.
func recordOf(what, to int, key api.Blind, set []byte) []byte {
	b := append([]byte{byte(what), byte(to)}, key[:]...)
	return append(binary.BigEndian.AppendUint32(b, uint32(len(set))), set...)
}

func newDisk(t *testing.T, n int) *disk.Disk {
	t.Helper()
	d, e := disk.New(n)
	if e != api.OK {
		t.Fatalf("disk.New(%d): error %d", n, e)
	}
	return d
}

// diskOf: one with these bytes, that all stay.
func diskOf(t *testing.T, image []byte) *disk.Disk {
	t.Helper()
	d := newDisk(t, len(image)/64)
	for i := range d.Size() {
		d.Write(i, disk.Sector(image[64*i:]))
	}
	d.Sync()
	return d
}

func formatted(t *testing.T, n int) (*disk.Disk, *shelf.Shelf) {
	t.Helper()
	d := newDisk(t, n)
	s, e := shelf.Format(d)
	if s == nil || e != api.OK {
		t.Fatalf("Format of %d sectors: error %d", n, e)
	}
	return d, s
}

func opened(t *testing.T, what string, d *disk.Disk) *shelf.Shelf {
	t.Helper()
	s, e := shelf.Open(d)
	if s == nil || e != api.OK {
		t.Fatalf("%s: Open: error %d", what, e)
	}
	return s
}

// logged: the records of a disk's log.
func logged(t *testing.T, d *disk.Disk) [][]byte {
	t.Helper()
	_, recs, e := log.Open(d)
	if e != api.OK {
		t.Fatalf("log.Open: error %d", e)
	}
	return recs
}

// withRecords: a disk whose log has these.
func withRecords(t *testing.T, recs ...[]byte) *disk.Disk {
	t.Helper()
	d := newDisk(t, 400)
	l, _ := log.Format(d)
	if e := l.Replace(recs); e != api.OK {
		t.Fatalf("log.Replace: error %d", e)
	}
	return d
}

// is: an answered error is this one.
func is(t *testing.T, what string, got, want api.Errno) {
	t.Helper()
	if got != want {
		t.Errorf("%s: error %d, want %d", what, got, want)
	}
}

// merges: Merge tells just this.
func merges(t *testing.T, what string, s *shelf.Shelf, key api.Blind, l []sibling.Sibling, want bool, wantErr api.Errno) {
	t.Helper()
	if is, e := s.Merge(key, l); is != want || e != wantErr {
		t.Errorf("%s: Merge: %v, error %d, want %v, error %d", what, is, e, want, wantErr)
	}
}

// has: a key has just these siblings.
func has(t *testing.T, what string, s *shelf.Shelf, key api.Blind, want []sibling.Sibling) {
	t.Helper()
	if got := s.Get(key); !sibling.Same(got, want) {
		t.Errorf("%s: %d siblings, want %d, or other ones", what, len(got), len(want))
	}
}

// holds: the hints for a replica are just these.
func holds(t *testing.T, what string, s *shelf.Shelf, to int, want ...shelf.Hint) {
	t.Helper()
	same := func(a, b shelf.Hint) bool {
		return a.For == b.For && a.Key == b.Key && sibling.Same(a.Set, b.Set)
	}
	if got := s.Hints(to); !slices.EqualFunc(got, want, same) {
		t.Errorf("%s: %d hints for %d, want %d, or other ones", what, len(got), to, len(want))
	}
}

// told: all that a shelf tells of what it keeps.
func told(s *shelf.Shelf) string {
	var out []byte
	for _, k := range s.Keys() {
		out = append(out, recordOf(1, 0, k, written(s.Get(k)))...)
	}
	for to := range replicas {
		for _, h := range s.Hints(to) {
			out = append(out, recordOf(2, h.For, h.Key, written(h.Set))...)
		}
	}
	return string(out)
}

// place: where a set is kept.
type place struct {
	what, to int
	key      api.Blind
}

// model: a shelf as the chapter tells it, with its log's records.
type model struct {
	sets       map[place][]sibling.Sibling
	recs       [][]byte
	room, turn int
}

func newModel(sectors int) *model {
	return &model{sets: map[place][]sibling.Sibling{}, room: log.Room(sectors), turn: 1}
}

func (m *model) copy() *model {
	return &model{sets: maps.Clone(m.sets), recs: slices.Clone(m.recs), room: m.room, turn: m.turn}
}

// places: those of the keys (what 1), or of a replica's hints (what 2), rising by key.
func (m *model) places(what, to int) []place {
	var out []place
	for p := range m.sets {
		if p.what == what && p.to == to {
			out = append(out, p)
		}
	}
	slices.SortFunc(out, func(a, b place) int { return cmp.Compare(string(a.key[:]), string(b.key[:])) })
	return out
}

func (m *model) compact() {
	m.recs = nil
	all := m.places(1, 0)
	for to := range replicas {
		all = append(all, m.places(2, to)...)
	}
	for _, p := range all {
		m.recs = append(m.recs, recordOf(p.what, p.to, p.key, written(m.sets[p])))
	}
	m.turn++
}

func (m *model) fits(rec []byte) bool {
	n := log.Size(rec)
	for _, r := range m.recs {
		n += log.Size(r)
	}
	return n <= m.room
}

// set: a change, if its record has room, be it behind a Compact.
func (m *model) set(p place, set []sibling.Sibling) api.Errno {
	rec := recordOf(p.what, p.to, p.key, written(set))
	if !m.fits(rec) {
		m.compact()
	}
	if !m.fits(rec) {
		return api.ErrFull
	}
	m.recs = append(m.recs, rec)
	m.turn++
	m.sets[p] = set
	if len(set) == 0 {
		delete(m.sets, p)
	}
	return api.OK
}

func (m *model) merge(p place, l []sibling.Sibling) (bool, api.Errno) {
	set, e := sibling.Merge(m.sets[p], l)
	if e != api.OK || sibling.Same(set, m.sets[p]) {
		return false, e
	}
	e = m.set(p, set)
	return e == api.OK, e
}

func (m *model) drop(p place, l []sibling.Sibling) api.Errno {
	set, is := m.sets[p]
	if !is || !sibling.Same(set, l) {
		return api.ErrMiss
	}
	return m.set(p, nil)
}

// same: the shelf, its log, and one that is opened anew tell what the model tells.
func (m *model) same(t *testing.T, what string, d *disk.Disk, s *shelf.Shelf) {
	t.Helper()
	if got := logged(t, d); !slices.EqualFunc(got, m.recs, bytes.Equal) || d.Loose() != 0 {
		t.Fatalf("%s: %d records, %d writes loose, want %d, or other ones", what, len(got), d.Loose(), len(m.recs))
	}
	for _, s := range []*shelf.Shelf{s, opened(t, what, d)} {
		var keys []api.Blind
		for _, p := range m.places(1, 0) {
			keys = append(keys, p.key)
		}
		if !slices.Equal(s.Keys(), keys) || s.Turn() != m.turn {
			t.Fatalf("%s: %d keys, turn %d, want %d, %d", what, len(s.Keys()), s.Turn(), len(keys), m.turn)
		}
		for _, k := range someKeys() {
			has(t, what, s, k, m.sets[place{1, 0, k}])
		}
		for to := -1; to <= replicas; to++ {
			var want []shelf.Hint
			for _, p := range m.places(2, to) {
				want = append(want, shelf.Hint{For: to, Key: p.key, Set: m.sets[p]})
			}
			holds(t, what, s, to, want...)
		}
	}
}

// drawnSet: of few siblings, of which some are seen by other ones.
func drawnSet(rng *rand.Rand) []sibling.Sibling {
	var l []sibling.Sibling
	for client := 1; client <= 3; client++ {
		if rng.IntN(2) == 0 {
			continue
		}
		s := one(at(client, 1+rng.IntN(4)), string(rune('a'+rng.IntN(3))))
		for range rng.IntN(5) {
			if d := at(1+rng.IntN(3), 1+rng.IntN(4)); d != s.Dot {
				s.Past, _ = dot.Add(s.Past, d)
			}
		}
		if got, e := sibling.Put(l, s); e == api.OK {
			l = got
		}
	}
	return l
}

// action: something that is done to a shelf and to a model; are its answers the same?
type action struct {
	what string
	do   func(s *shelf.Shelf) (bool, api.Errno)
	told func(m *model) (bool, api.Errno)
}

func merging(key api.Blind, l []sibling.Sibling) action {
	return action{"Merge",
		func(s *shelf.Shelf) (bool, api.Errno) { return s.Merge(key, l) },
		func(m *model) (bool, api.Errno) { return m.merge(place{1, 0, key}, l) }}
}

func holding(to int, key api.Blind, l []sibling.Sibling) action {
	return action{"Hold",
		func(s *shelf.Shelf) (bool, api.Errno) {
			return false, s.Hold(shelf.Hint{For: to, Key: key, Set: l})
		},
		func(m *model) (bool, api.Errno) {
			if to < 0 || to >= replicas || len(l) == 0 {
				return false, api.ErrArg
			}
			_, e := m.merge(place{2, to, key}, l)
			return false, e
		}}
}

func dropping(to int, key api.Blind, l []sibling.Sibling) action {
	return action{"Drop",
		func(s *shelf.Shelf) (bool, api.Errno) { return false, s.Drop(to, key, l) },
		func(m *model) (bool, api.Errno) { return false, m.drop(place{2, to, key}, l) }}
}

func compacting() action {
	return action{"Compact",
		func(s *shelf.Shelf) (bool, api.Errno) { return false, s.Compact() },
		func(m *model) (bool, api.Errno) { m.compact(); return false, api.OK }}
}

// drawn: an action of any kind; what is dropped is mostly there.
func drawn(rng *rand.Rand, m *model) action {
	key, l, to := someKeys()[rng.IntN(7)], drawnSet(rng), rng.IntN(replicas+2)-1
	switch k := rng.IntN(20); {
	case k < 9:
		return merging(key, l)
	case k < 14:
		return holding(to, key, l)
	case k < 19:
		if held := m.places(2, to); len(held) > 0 && rng.IntN(6) > 0 {
			key, l = held[0].key, copied(m.sets[held[0]])
		}
		return dropping(to, key, l)
	default:
		return compacting()
	}
}

// P18.1: the chapter's example.
func TestExample(t *testing.T) {
	d, s := formatted(t, 40)
	l := setOf(one(at(1, 1), "x"))
	merges(t, "first", s, keyOf(1, 1), l, true, api.OK)
	d.Crash(nil)
	has(t, "behind a crash", opened(t, "behind a crash", d), keyOf(1, 1), l)
}

// P18.1: all calls, drawn, on disks with room for much and for little: what is told, and the log's records.
func TestDrawn(t *testing.T) {
	for seed := range uint64(150) {
		rng := rand.New(rand.NewPCG(seed, 18))
		n := []int{8, 14, 20, 40, 80, 400}[rng.IntN(6)]
		d, s := formatted(t, n)
		m := newModel(n)
		for range 60 {
			a := drawn(rng, m)
			got, e := a.do(s)
			want, wantErr := a.told(m)
			if got != want || e != wantErr {
				t.Fatalf("seed %d: %s: %v, error %d, want %v, error %d", seed, a.what, got, e, want, wantErr)
			}
			m.same(t, a.what, d, s)
			if rng.IntN(5) == 0 {
				s = opened(t, "drawn", d)
			}
		}
	}
}

// P18.1: Format makes an empty one, also of what was one; its errors are the log's.
func TestFormat(t *testing.T) {
	d, s := formatted(t, 40)
	merges(t, "ahead", s, keyOf(1, 0), setOf(one(at(1, 1), "x")), true, api.OK)
	is(t, "ahead", s.Hold(shelf.Hint{For: 1, Key: keyOf(1, 0), Set: setOf(one(at(1, 1), "x"))}), api.OK)
	s, e := shelf.Format(d)
	if e != api.OK || told(s) != "" || s.Turn() != 4 || told(opened(t, "formatted", d)) != "" {
		t.Errorf("formatted again: error %d, or something is left", e)
	}
	small, last, off := newDisk(t, 3), newDisk(t, 4), newDisk(t, 4)
	off.Fuse(1)
	off.Sync()
	for _, c := range []struct {
		d                *disk.Disk
		format, openings api.Errno
	}{{nil, api.ErrArg, api.ErrArg}, {small, api.ErrArg, api.ErrArg}, {off, api.ErrDown, api.ErrMiss}, {last, api.OK, api.ErrMiss}} {
		if s, e := shelf.Open(c.d); s != nil || e != c.openings {
			t.Errorf("Open: %v, error %d, want %d", s != nil, e, c.openings)
		}
		if s, e := shelf.Format(c.d); (s != nil) != (e == api.OK) || e != c.format {
			t.Errorf("Format: %v, error %d, want %d", s != nil, e, c.format)
		}
	}
	last.Fuse(1)
	last.Sync()
	if s, e := shelf.Open(last); s != nil || e != api.ErrDown {
		t.Errorf("Open without power: %v, error %d", s != nil, e)
	}
}

// P18.1: the log's records, byte by byte.
func TestRecords(t *testing.T) {
	d, s := formatted(t, 80)
	k := keyOf(7, 9)
	a, b := one(at(1, 1), "a"), one(at(2, 1), "b", at(5, 3))
	merges(t, "a", s, k, setOf(a), true, api.OK)
	merges(t, "b", s, k, setOf(b), true, api.OK)
	is(t, "Hold", s.Hold(shelf.Hint{For: 7, Key: k, Set: setOf(b)}), api.OK)
	is(t, "Hold", s.Hold(shelf.Hint{For: 0, Key: k, Set: setOf(a)}), api.OK)
	is(t, "Drop", s.Drop(7, k, setOf(b)), api.OK)
	want := [][]byte{
		recordOf(1, 0, k, written(setOf(a))),
		recordOf(1, 0, k, written(setOf(a, b))),
		recordOf(2, 7, k, written(setOf(b))),
		recordOf(2, 0, k, written(setOf(a))),
		recordOf(2, 7, k, []byte{0}),
	}
	if got := logged(t, d); !slices.EqualFunc(got, want, bytes.Equal) || s.Turn() != 6 {
		t.Errorf("%d records, turn %d, or other ones", len(got), s.Turn())
	}
	is(t, "Compact", s.Compact(), api.OK)
	if got := logged(t, d); !slices.EqualFunc(got, [][]byte{want[1], want[3]}, bytes.Equal) || s.Turn() != 7 {
		t.Errorf("compacted: %d records, turn %d, or other ones", len(got), s.Turn())
	}
}

// P18.1: Merge tells whether there is something new; where there isn't, nothing is written.
func TestMerge(t *testing.T) {
	d, s := formatted(t, 80)
	k := keyOf(1, 0)
	first, second := one(at(1, 1), "first"), one(at(2, 1), "second")
	merges(t, "nothing", s, k, nil, false, api.OK)
	merges(t, "one", s, k, setOf(second), true, api.OK)
	merges(t, "another one", s, k, setOf(first), true, api.OK)
	has(t, "both", s, k, setOf(first, second))
	has(t, "another key", s, keyOf(0, 1), nil)
	turn, was := s.Turn(), d.Image()
	d.Fuse(1)
	for _, l := range [][]sibling.Sibling{nil, {}, {first}, {second}, {first, second}, {one(at(1, 1), "of the same dot")}} {
		merges(t, "nothing new", s, k, l, false, api.OK)
	}
	if d.Off() || s.Turn() != turn || !bytes.Equal(d.Image(), was) {
		t.Error("nothing new, and something is written")
	}
	d.Fuse(0)
	third := one(at(3, 1), "third", first.Dot, second.Dot)
	merges(t, "that has seen both", s, k, setOf(third), true, api.OK)
	merges(t, "that it has seen", s, k, setOf(first), false, api.OK)
	has(t, "that has seen both", s, k, setOf(third))
}

// P18.1: writes that have each seen the other one are both gone: of no siblings there is no key, and no hint.
func TestGone(t *testing.T) {
	d, s := formatted(t, 80)
	k := keyOf(1, 0)
	a, b := one(at(1, 1), "a", at(2, 1)), one(at(2, 1), "b", at(1, 1))
	merges(t, "a", s, k, setOf(a), true, api.OK)
	merges(t, "b", s, k, setOf(b), true, api.OK)
	is(t, "a", s.Hold(shelf.Hint{For: 3, Key: k, Set: setOf(a)}), api.OK)
	is(t, "b", s.Hold(shelf.Hint{For: 3, Key: k, Set: setOf(b)}), api.OK)
	for _, s := range []*shelf.Shelf{s, opened(t, "gone", d)} {
		if len(s.Keys()) != 0 || told(s) != "" {
			t.Errorf("%d keys", len(s.Keys()))
		}
		has(t, "gone", s, k, nil)
		holds(t, "gone", s, 3)
		is(t, "gone", s.Drop(3, k, nil), api.ErrMiss)
	}
}

// noSets: what sibling.Merge refuses, and by which error.
func noSets() map[api.Errno][]sibling.Sibling {
	return map[api.Errno][]sibling.Sibling{
		api.ErrArg:   setOf(one(at(0, 1), "no dot")),
		api.ErrBig:   many(1, 65),
		api.ErrFalse: setOf(one(at(1, 1), "seen"), one(at(2, 1), "", at(1, 1))),
	}
}

// P18.1: Merge's and Hold's errors, that change nothing.
func TestErrors(t *testing.T) {
	d, s := formatted(t, 1000)
	k := keyOf(1, 0)
	merges(t, "ahead", s, k, many(1, 64), true, api.OK)
	is(t, "ahead", s.Hold(shelf.Hint{For: 1, Key: k, Set: many(1, 64)}), api.OK)
	was, image := told(s), d.Image()
	for want, l := range noSets() {
		for _, key := range []api.Blind{k, keyOf(2, 0)} {
			merges(t, "refused", s, key, l, false, want)
			is(t, "refused", s.Hold(shelf.Hint{For: 1, Key: key, Set: l}), want)
			is(t, "no replica", s.Hold(shelf.Hint{For: 8, Key: key, Set: l}), api.ErrArg)
			is(t, "no replica", s.Hold(shelf.Hint{For: -1, Key: key, Set: l}), api.ErrArg)
		}
	}
	merges(t, "65", s, k, setOf(one(at(2, 1), "")), false, api.ErrBig)
	is(t, "65", s.Hold(shelf.Hint{For: 1, Key: k, Set: setOf(one(at(2, 1), ""))}), api.ErrBig)
	for _, to := range []int{math.MinInt, -1, 8, 9, math.MaxInt} {
		is(t, "no replica", s.Hold(shelf.Hint{For: to, Key: k, Set: many(1, 1)}), api.ErrArg)
		is(t, "no replica", s.Drop(to, k, many(1, 64)), api.ErrMiss)
		is(t, "no replica", s.Drop(to, k, nil), api.ErrMiss)
		holds(t, "no replica", s, to)
	}
	for to := range replicas {
		is(t, "no set", s.Hold(shelf.Hint{For: to, Key: k}), api.ErrArg)
		is(t, "an empty set", s.Hold(shelf.Hint{For: to, Key: k, Set: setOf()}), api.ErrArg)
	}
	if told(s) != was || !bytes.Equal(d.Image(), image) {
		t.Error("what is refused changes something")
	}
}

// P18.1: keys and hints are told rising, in whatever order they came; hints are those for one replica alone.
func TestInOrder(t *testing.T) {
	rng := rand.New(rand.NewPCG(3, 18))
	keys := someKeys()
	for range 20 {
		d, s := formatted(t, 1000)
		var want []shelf.Hint
		for _, k := range keys {
			want = append(want, shelf.Hint{For: 5, Key: k, Set: setOf(one(at(1, 1+int(k[31])), "h"))})
		}
		for _, i := range rng.Perm(len(keys)) {
			merges(t, "in order", s, keys[i], want[i].Set, true, api.OK)
			is(t, "in order", s.Hold(want[i]), api.OK)
			is(t, "in order", s.Hold(shelf.Hint{For: i % 5, Key: keys[i], Set: want[i].Set}), api.OK)
		}
		for _, s := range []*shelf.Shelf{s, opened(t, "in order", d)} {
			if !slices.Equal(s.Keys(), keys) {
				t.Errorf("keys: %x", s.Keys())
			}
			holds(t, "in order", s, 5, want...)
			holds(t, "of none", s, 6)
			if len(s.Hints(0)) != 2 || len(s.Hints(4)) != 1 {
				t.Errorf("%d, %d hints", len(s.Hints(0)), len(s.Hints(4)))
			}
		}
		is(t, "Compact", s.Compact(), api.OK)
		m := newModel(1000)
		for _, p := range want {
			m.sets[place{1, 0, p.Key}], m.sets[place{2, 5, p.Key}] = p.Set, p.Set
		}
		for i, p := range want {
			m.sets[place{2, i % 5, p.Key}] = p.Set
		}
		m.compact()
		m.turn = s.Turn()
		m.same(t, "compacted", d, s)
	}
}

// P18.1: a hint is for a replica and a key; it has all that was held; where that is the same, nothing is written.
func TestHold(t *testing.T) {
	d, s := formatted(t, 80)
	k, other := keyOf(1, 0), keyOf(1, 1)
	a, b := one(at(1, 1), "a"), one(at(2, 1), "b")
	is(t, "a", s.Hold(shelf.Hint{For: 2, Key: k, Set: setOf(a)}), api.OK)
	is(t, "b", s.Hold(shelf.Hint{For: 2, Key: k, Set: setOf(b)}), api.OK)
	is(t, "of another replica", s.Hold(shelf.Hint{For: 3, Key: k, Set: setOf(b)}), api.OK)
	is(t, "of another key", s.Hold(shelf.Hint{For: 2, Key: other, Set: setOf(a)}), api.OK)
	turn := s.Turn()
	d.Fuse(1)
	is(t, "the same", s.Hold(shelf.Hint{For: 2, Key: k, Set: setOf(b)}), api.OK)
	is(t, "both", s.Hold(shelf.Hint{For: 2, Key: k, Set: setOf(a, b)}), api.OK)
	if s.Turn() != turn || d.Off() {
		t.Error("the same is written")
	}
	holds(t, "held", s, 2, shelf.Hint{For: 2, Key: k, Set: setOf(a, b)}, shelf.Hint{For: 2, Key: other, Set: setOf(a)})
	holds(t, "held", s, 3, shelf.Hint{For: 3, Key: k, Set: setOf(b)})
	has(t, "a hint is no key's", s, k, nil)
	if len(s.Keys()) != 0 {
		t.Errorf("%d keys", len(s.Keys()))
	}
}

// P18.1: Drop takes the hint whose set is just the one that is told, and no other one.
func TestDrop(t *testing.T) {
	d, s := formatted(t, 80)
	k, other := keyOf(1, 0), keyOf(1, 1)
	a, b := one(at(1, 1), "a"), one(at(2, 1), "b")
	all := []shelf.Hint{{For: 2, Key: k, Set: setOf(a, b)}, {For: 2, Key: other, Set: setOf(a)}, {For: 3, Key: k, Set: setOf(a, b)}}
	for _, h := range all {
		is(t, "Hold", s.Hold(h), api.OK)
	}
	merges(t, "a key's", s, k, setOf(a, b), true, api.OK)
	was, image := told(s), d.Image()
	for _, l := range [][]sibling.Sibling{nil, {}, {a}, {b}, {b, a}, {a, one(at(2, 1), "c")}, {a, one(at(2, 1), "b", at(4, 4))}, {a, b, one(at(3, 1), "")}} {
		is(t, "another set", s.Drop(2, k, l), api.ErrMiss)
	}
	is(t, "of none", s.Drop(4, k, setOf(a, b)), api.ErrMiss)
	is(t, "of none", s.Drop(0, k, setOf(a, b)), api.ErrMiss)
	is(t, "of none, and none", s.Drop(4, k, nil), api.ErrMiss)
	is(t, "of another key", s.Drop(2, keyOf(9, 9), setOf(a, b)), api.ErrMiss)
	if told(s) != was || !bytes.Equal(d.Image(), image) {
		t.Error("what is refused changes something")
	}
	is(t, "just it", s.Drop(2, k, setOf(a, b)), api.OK)
	is(t, "twice", s.Drop(2, k, setOf(a, b)), api.ErrMiss)
	for _, s := range []*shelf.Shelf{s, opened(t, "dropped", d)} {
		holds(t, "dropped", s, 2, all[1])
		holds(t, "dropped", s, 3, all[2])
		has(t, "dropped", s, k, setOf(a, b))
	}
	is(t, "held anew", s.Hold(shelf.Hint{For: 2, Key: k, Set: setOf(a)}), api.OK)
	holds(t, "held anew", s, 2, shelf.Hint{For: 2, Key: k, Set: setOf(a)}, all[1])
}

// P18.1: what the records make, one by one; of no siblings there is none any more, also where there was none.
func TestOpen(t *testing.T) {
	k, other := keyOf(1, 0), keyOf(1, 1)
	a, b := written(setOf(one(at(1, 1), "a"))), written(setOf(one(at(2, 1), "b")))
	s := opened(t, "records", withRecords(t,
		recordOf(1, 0, k, a), recordOf(1, 0, k, b), recordOf(1, 0, other, a), recordOf(1, 0, other, []byte{0}),
		recordOf(2, 7, k, a), recordOf(2, 0, k, a), recordOf(2, 0, k, b), recordOf(2, 7, k, []byte{0}), recordOf(2, 6, k, []byte{0})))
	has(t, "the last one", s, k, setOf(one(at(2, 1), "b")))
	if keys := s.Keys(); !slices.Equal(keys, []api.Blind{k}) || s.Turn() != 2 {
		t.Errorf("%d keys, turn %d", len(keys), s.Turn())
	}
	holds(t, "the last one", s, 0, shelf.Hint{For: 0, Key: k, Set: setOf(one(at(2, 1), "b"))})
	holds(t, "none any more", s, 7)
	holds(t, "never", s, 6)
	full := one(at(1, 1), string(bytes.Repeat([]byte("x"), 16384)))
	large := opened(t, "large", withLarge(t, recordOf(1, 0, k, written(setOf(full)))))
	has(t, "large", large, k, setOf(full))
}

// withLarge: a disk of the greatest size whose log has one record.
func withLarge(t *testing.T, rec []byte) *disk.Disk {
	t.Helper()
	d := newDisk(t, 8192)
	l, _ := log.Format(d)
	is(t, "a large record", l.Append(rec), api.OK)
	return d
}

// P18.1: as large a set as a disk has room for comes back.
func TestLargest(t *testing.T) {
	d, s := formatted(t, 8192)
	var l []sibling.Sibling
	for client := range 15 {
		l = append(l, one(at(client+1, 1), string(bytes.Repeat([]byte{byte(client)}, 16384))))
	}
	room := log.Room(8192) - log.Size(recordOf(1, 0, keyOf(1, 1), written(l))) - len(written(setOf(one(at(16, 1), "")))) + 1
	l = append(l, one(at(16, 1), string(make([]byte, room+1))))
	merges(t, "a byte too many", s, keyOf(1, 1), l, false, api.ErrFull)
	l[15].Body = l[15].Body[1:]
	merges(t, "just", s, keyOf(1, 1), l, true, api.OK)
	has(t, "just", opened(t, "just", d), keyOf(1, 1), l)
}

// P18.1: what is no record is refused by Open, whatever stands ahead of it or behind.
func TestErrDecode(t *testing.T) {
	k := keyOf(1, 0)
	set := written(setOf(one(at(1, 1), "a")))
	good, hint := recordOf(1, 0, k, set), recordOf(2, 7, k, set)
	long := slices.Clone(good)
	long[37]++ // the set's count
	short := slices.Clone(good)
	short[37]--
	for what, rec := range map[string][]byte{
		"nothing":                      nil,
		"a byte":                       {1},
		"what is 0":                    recordOf(0, 0, k, set),
		"what is 3":                    recordOf(3, 0, k, set),
		"what is 255":                  recordOf(255, 0, k, set),
		"a key's set for a replica":    recordOf(1, 1, k, set),
		"none of a key, for a replica": recordOf(1, 1, k, []byte{0}),
		"a hint for replica 8":         recordOf(2, 8, k, set),
		"a hint for replica 255":       recordOf(2, 255, k, set),
		"no set":                       recordOf(1, 0, k, nil),
		"a set that is none":           recordOf(1, 0, k, []byte{1}),
		"a set with something behind":  recordOf(1, 0, k, append(slices.Clone(set), 0)),
		"none with something behind":   recordOf(1, 0, k, []byte{0, 0}),
		"a hint's set that is none":    recordOf(2, 0, k, set[1:]),
		"something behind":             append(slices.Clone(good), 0),
		"something behind a hint":      append(slices.Clone(hint), 0),
		"too short":                    good[:len(good)-1],
		"a longer count":               long,
		"a shorter count":              short,
		"no count":                     good[:34],
		"no key":                       good[:20],
		"no For":                       good[:1],
	} {
		for _, recs := range [][][]byte{{rec}, {good, rec}, {hint, good, rec}, {rec, good}, {good, rec, hint, good}} {
			if s, e := shelf.Open(withRecords(t, recs...)); s != nil || e != api.ErrDecode {
				t.Errorf("%s: %v, error %d", what, s != nil, e)
			}
		}
	}
	opened(t, "as it should be", withRecords(t, good, hint))
}

// P18.1: what has no room is refused, and no set and no hint is another one; where a Compact makes room, it is done.
func TestFull(t *testing.T) {
	for n := 10; n < 60; n += 3 {
		d, s := formatted(t, n)
		m := newModel(n)
		full := 0
		for i := range 40 {
			k := someKeys()[i*5%7]
			for _, a := range []action{
				merging(k, setOf(one(at(1, i+1), string(make([]byte, i*3)), at(1, max(i-6, 1))))),
				holding(i%8, k, setOf(one(at(2, i+1), "h"))),
				dropping((i+3)%8, k, m.sets[place{2, (i + 3) % 8, k}]),
			} {
				was := told(s)
				got, e := a.do(s)
				want, wantErr := a.told(m)
				if got != want || e != wantErr || e != api.OK && told(s) != was {
					t.Fatalf("%d sectors: %s: %v, error %d, want %v, error %d", n, a.what, got, e, want, wantErr)
				}
				if e == api.ErrFull {
					full++
				}
				m.same(t, a.what, d, s)
			}
		}
		if full == 0 {
			t.Errorf("%d sectors: it was never full", n)
		}
	}
}

// P18.1: a Compact is done where the record has no room ahead of it, and there alone; of what was changed often one record is left.
func TestCompactMakesRoom(t *testing.T) {
	d, s := formatted(t, 40)
	k := keyOf(1, 0)
	m := newModel(40)
	compacts := 0
	for i := range 100 {
		a := merging(k, setOf(one(at(1, i+1), "body", at(1, max(i, 1)))))
		if i == 0 {
			a = merging(k, setOf(one(at(1, 1), "body")))
		}
		turn := s.Turn()
		if is, e := a.do(s); !is || e != api.OK {
			t.Fatalf("write %d: %v, error %d", i, is, e)
		}
		a.told(m)
		m.same(t, a.what, d, s)
		if s.Turn() == turn+2 {
			compacts++
		}
	}
	if compacts < 10 || compacts > 30 {
		t.Errorf("%d compacts", compacts)
	}
}

// P18.1: a Drop, too, is a record: it is refused where there is no room for it, and done behind a Compact.
func TestDropInFull(t *testing.T) {
	k := keyOf(1, 0)
	l := setOf(one(at(1, 1), string(make([]byte, 130))))
	size := log.Size(recordOf(2, 1, k, written(l)))
	for left := range 100 {
		n := 2 + 2*((size+left+63)/64)
		l := setOf(one(at(1, 1), string(make([]byte, 130+log.Room(n)-size-left))))
		d, s := formatted(t, n)
		is(t, "Hold", s.Hold(shelf.Hint{For: 1, Key: k, Set: l}), api.OK)
		want := api.OK
		if left < log.Size(recordOf(2, 1, k, []byte{0})) {
			want = api.ErrFull
		}
		is(t, "Drop", s.Drop(1, k, l), want)
		if len(s.Hints(1)) != len(opened(t, "Drop", d).Hints(1)) || (len(s.Hints(1)) == 0) != (want == api.OK) {
			t.Errorf("%d left: %d hints", left, len(s.Hints(1)))
		}
	}
	d, s := formatted(t, 2+2*7)
	for i := range 20 {
		is(t, "Hold", s.Hold(shelf.Hint{For: 1, Key: k, Set: setOf(one(at(1, 1+i), "x"))}), api.OK)
		is(t, "Drop", s.Drop(1, k, setOf(one(at(1, 1+i), "x"))), api.OK)
		holds(t, "Drop", opened(t, "Drop", d), 1)
	}
}

// stays: what a crash may leave of so many loose writes: all that may be, of few; of many some.
func stays(loose int) [][]bool {
	var out [][]bool
	rng := rand.New(rand.NewPCG(uint64(loose), 18))
	for bits := range min(1<<loose, 40) {
		stay := make([]bool, loose)
		for k := range stay {
			stay[k] = bits>>k&1 == 1
			if loose > 5 && bits > 1 {
				stay[k] = rng.IntN(2) == 0
			} else if loose > 5 {
				stay[k] = bits == 1
			}
		}
		out = append(out, stay)
	}
	return out
}

// crashes: an action at each fuse, with each crash: the shelf is as ahead, or as behind it; and goes on.
func crashes(t *testing.T, m *model, image []byte, a action) {
	t.Helper()
	behind := m.copy()
	if _, e := a.told(behind); e != api.OK {
		t.Fatalf("%s: error %d", a.what, e)
	}
	was, next := toldBy(m), toldBy(behind)
	for fuse := 1; ; fuse++ {
		first := diskOf(t, image)
		s := opened(t, a.what, first)
		first.Fuse(fuse)
		_, e := a.do(s)
		for _, stay := range stays(first.Loose()) {
			d := diskOf(t, image)
			s := opened(t, a.what, d)
			d.Fuse(fuse)
			if _, err := a.do(s); err != e {
				t.Fatalf("%s: error %d, was %d", a.what, err, e)
			}
			d.Crash(stay)
			o := opened(t, a.what, d)
			if got := told(o); got != next && (e == api.OK || got != was) {
				t.Fatalf("%s, fuse %d, %v: neither as ahead nor as behind it", a.what, fuse, stay)
			}
			if _, err := a.do(o); err != api.OK && err != api.ErrMiss || told(o) != next || told(opened(t, a.what, d)) != next {
				t.Fatalf("%s, fuse %d, %v: done again: error %d", a.what, fuse, stay, err)
			}
		}
		if e != api.ErrDown {
			is(t, a.what, e, api.OK)
			return
		}
	}
}

// toldBy: what a shelf that is like a model would tell.
func toldBy(m *model) string {
	c := m.copy()
	c.compact()
	return string(slices.Concat(c.recs...))
}

// P18.2: each call, at each fuse, whatever a crash leaves, also where it begins with a Compact: as behind all that was answered, or what was under way, too.
func TestCrash(t *testing.T) {
	k, other := keyOf(1, 0), keyOf(1, 1)
	a, b := setOf(one(at(1, 1), "a")), setOf(one(at(2, 1), "b"))
	actions := []action{merging(k, b), merging(other, b), merging(k, setOf(one(at(3, 1), "c", at(1, 1)))), holding(2, k, b), holding(3, k, b), dropping(2, k, a), compacting()}
	compacts := 0
	for _, n := range []int{22, 24, 26, 28, 32, 80} { // records of some 200 bytes each: in small ones the next has room behind a Compact alone
		d, s := formatted(t, n)
		m := newModel(n)
		for _, ahead := range []action{merging(k, setOf(one(at(4, 1), "old"))), merging(k, setOf(one(at(1, 1), "a", at(4, 1)))), holding(2, k, a)} {
			got, e := ahead.do(s)
			if want, wantErr := ahead.told(m); got != want || e != wantErr || e != api.OK {
				t.Fatalf("ahead: %v, error %d", got, e)
			}
		}
		for _, act := range actions {
			behind := m.copy()
			if _, e := act.told(behind); e == api.OK {
				crashes(t, m, d.Image(), act)
			} else if n > 28 {
				t.Errorf("%d sectors: %s: error %d", n, act.what, e)
			}
			if behind.turn == m.turn+2 {
				compacts++
			}
		}
	}
	if compacts < 10 {
		t.Errorf("%d compacts", compacts)
	}
}

// P18.2: drawn calls, with a crash now and then.
func TestDrawnCrashes(t *testing.T) {
	for seed := range uint64(80) {
		rng := rand.New(rand.NewPCG(seed, 19))
		n := 16 + rng.IntN(60)
		d, s := formatted(t, n)
		m := newModel(n)
		for step := range 60 {
			a := drawn(rng, m)
			behind := m.copy()
			want, wantErr := a.told(behind)
			d.Fuse(rng.IntN(40))
			got, e := a.do(s)
			if e != api.ErrDown {
				m = behind
				if got != want || e != wantErr || told(s) != toldBy(m) {
					t.Fatalf("seed %d, step %d: %s: %v, error %d, want %v, error %d", seed, step, a.what, got, e, want, wantErr)
				}
				continue
			}
			stay := make([]bool, d.Loose())
			for i := range stay {
				stay[i] = rng.IntN(2) == 0
			}
			d.Crash(stay)
			s = opened(t, "drawn", d)
			switch told(s) {
			case toldBy(m):
			case toldBy(behind):
				m.sets = behind.sets
			default:
				t.Fatalf("seed %d, step %d: %s: neither as ahead nor as behind it", seed, step, a.what)
			}
			m.recs, m.turn = logged(t, d), s.Turn()
		}
	}
}

// P18.1: behind ErrDown what would write tells ErrDown, also when the power is on again; what reads tells what it told.
func TestDown(t *testing.T) {
	k, other := keyOf(1, 0), keyOf(1, 1)
	a, b := setOf(one(at(1, 1), "a")), setOf(one(at(2, 1), "b"))
	both := setOf(a[0], b[0])
	for _, act := range []action{merging(k, b), merging(other, b), holding(2, k, b), holding(3, k, b), dropping(2, k, a), compacting()} {
		for fuse := 1; ; fuse++ {
			d, s := formatted(t, 80)
			m := newModel(80)
			for _, ahead := range []action{merging(k, a), holding(2, k, a)} {
				ahead.do(s)
				ahead.told(m)
			}
			turn := s.Turn()
			d.Fuse(fuse)
			if is, e := act.do(s); e == api.OK {
				break
			} else if is || e != api.ErrDown {
				t.Fatalf("%s: %v, error %d", act.what, is, e)
			}
			behind := m.copy()
			act.told(behind)
			for range 2 {
				was, loose := d.Image(), d.Loose()
				if got := told(s); got != toldBy(m) && got != toldBy(behind) || s.Turn() != turn {
					t.Errorf("%s, fuse %d: it tells something else", act.what, fuse)
				}
				act.do(s)
				merges(t, "something new", s, keyOf(9, 9), both, false, api.ErrDown)
				merges(t, "the same", s, k, a, false, api.ErrDown)
				is(t, "something new", s.Hold(shelf.Hint{For: 7, Key: k, Set: both}), api.ErrDown)
				is(t, "Drop", s.Drop(2, k, s.Hints(2)[0].Set), api.ErrDown)
				is(t, "Compact", s.Compact(), api.ErrDown)
				merges(t, "no set", s, k, many(1, 65), false, api.ErrBig)
				is(t, "no replica", s.Hold(shelf.Hint{For: 8, Key: k, Set: a}), api.ErrArg)
				is(t, "no hint", s.Drop(6, k, a), api.ErrMiss)
				if d.Loose() != loose || !bytes.Equal(d.Image(), was) {
					t.Errorf("%s, fuse %d: it writes", act.what, fuse)
				}
				d.Crash(nil)
			}
		}
	}
}

// P18.1: without power there may be nothing new.
func TestNoPower(t *testing.T) {
	d, s := formatted(t, 80)
	k := keyOf(1, 0)
	a := setOf(one(at(1, 1), "a"))
	merges(t, "ahead", s, k, a, true, api.OK)
	d.Fuse(1)
	d.Sync()
	merges(t, "the same", s, k, a, false, api.OK)
	merges(t, "more than a disk has", s, keyOf(1, 1), setOf(one(at(1, 1), string(make([]byte, 9000)))), false, api.ErrDown)
	merges(t, "the same", s, k, a, false, api.ErrDown)
	has(t, "no power", s, k, a)
}

// roomy: a list with spare room behind it, behind each Body and each More, and a look whether any of it was changed.
func roomy(l []sibling.Sibling) ([]sibling.Sibling, func() bool) {
	whole := copied(append(slices.Clone(l), many(9, 3)...))
	for i, s := range whole {
		whole[i].Body = append(slices.Clone(s.Body), "spare room"...)[:len(s.Body)]
		whole[i].Past.More = append(slices.Clone(s.Past.More), at(8, 8), at(8, 10))[:len(s.Past.More)]
	}
	was := roomOf(whole)
	return whole[:len(l)], func() bool { return !sibling.Same(roomOf(whole), was) }
}

// roomOf: a copy of a list, with all the room that is behind its parts.
func roomOf(l []sibling.Sibling) []sibling.Sibling {
	out := slices.Clone(l)
	for i, s := range out {
		out[i].Body = slices.Clone(s.Body[:cap(s.Body)])
		out[i].Past.More = slices.Clone(s.Past.More[:cap(s.Past.More)])
	}
	return out
}

// spoil writes over a list, over all of its parts, and behind them.
func spoil(l []sibling.Sibling) {
	for i, s := range l {
		for k := range s.Body {
			s.Body[k] ^= 0x55
		}
		for k := range s.Past.More {
			s.Past.More[k].Number += 1000
		}
		_ = append(s.Body, "behind"...)
		_ = append(s.Past.More, at(9, 9))
		l[i].Dot, l[i].Past, l[i].Body = at(5, 5), dot.Context{}, nil
	}
	_ = append(l, many(1, 3)...)
}

// P18.3: what is handed in isn't changed or kept; what is told is new memory.
func TestNewMemory(t *testing.T) {
	for _, read := range []bool{false, true} {
		d, s := formatted(t, 200)
		k, other := keyOf(1, 0), keyOf(1, 1)
		l := setOf(one(at(1, 9), "body a", at(1, 1), at(1, 7)), one(at(2, 9), "body b", at(3, 3), at(4, 5)))
		a, changedA := roomy(l)
		b, changedB := roomy(l)
		merges(t, "Merge", s, k, a, true, api.OK)
		is(t, "Hold", s.Hold(shelf.Hint{For: 2, Key: k, Set: b}), api.OK)
		is(t, "Hold", s.Hold(shelf.Hint{For: 2, Key: other, Set: a}), api.OK)
		is(t, "Drop", s.Drop(2, other, b), api.OK)
		is(t, "Drop", s.Drop(2, k, b[:1]), api.ErrMiss)
		is(t, "Hold", s.Hold(shelf.Hint{For: 2, Key: other, Set: b}), api.OK)
		if changedA() || changedB() {
			t.Error("what is handed in is changed")
		}
		spoil(a)
		spoil(b)
		if read {
			s = opened(t, "read", d)
		}
		want := string(slices.Concat(recordOf(1, 0, k, written(l)), recordOf(2, 2, k, written(l)), recordOf(2, 2, other, written(l))))
		as := func(what string) {
			t.Helper()
			if told(s) != want {
				t.Errorf("%s: something is shared", what)
			}
		}
		as("what was handed in is spoilt")
		first, second := s.Get(k), s.Get(k)
		spoil(first[:1])
		if !sibling.Same(first[1:], l[1:]) || !sibling.Same(second, l) {
			t.Error("two siblings, or two answers, share memory")
		}
		as("siblings are spoilt")
		hints, again := s.Hints(2), s.Hints(2)
		spoil(hints[0].Set)
		if !sibling.Same(hints[1].Set, l) || !sibling.Same(again[0].Set, l) || !sibling.Same(again[1].Set, l) {
			t.Error("two hints, or two answers, share memory")
		}
		hints[1] = shelf.Hint{}
		_ = append(hints[:1], shelf.Hint{})
		as("hints are spoilt")
		keys := s.Keys()
		keys[0][0]++
		_ = append(keys, k)
		as("keys are spoilt")
		is(t, "Compact", s.Compact(), api.OK)
		as("compacted")
	}
}

// P1, P18.1: a nil shelf, and one that neither Format nor Open made.
func TestNil(t *testing.T) {
	l := setOf(one(at(1, 1), "a"))
	for _, s := range []*shelf.Shelf{nil, new(shelf.Shelf)} {
		for _, set := range [][]sibling.Sibling{nil, l, many(1, 65)} {
			merges(t, "nil", s, keyOf(1, 0), set, false, api.ErrArg)
			is(t, "Hold", s.Hold(shelf.Hint{For: 1, Key: keyOf(1, 0), Set: set}), api.ErrArg)
			is(t, "Drop", s.Drop(1, keyOf(1, 0), set), api.ErrArg)
		}
		is(t, "Compact", s.Compact(), api.ErrArg)
		has(t, "nil", s, keyOf(1, 0), nil)
		holds(t, "nil", s, 1)
		if len(s.Keys()) != 0 || s.Turn() != 0 {
			t.Errorf("%d keys, turn %d", len(s.Keys()), s.Turn())
		}
	}
}

// P1: Open ends, without a panic, of records of all bytes.
func TestDrawnRecords(t *testing.T) {
	rng := rand.New(rand.NewPCG(2, 18))
	good := recordOf(2, 3, keyOf(1, 0), written(setOf(one(at(1, 9), "abc", at(1, 1), at(4, 4)))))
	for range 2000 {
		rec := slices.Clone(good[:rng.IntN(len(good)+1)])
		for range rng.IntN(4) {
			if len(rec) > 0 {
				rec[rng.IntN(len(rec))] = byte(rng.Uint32())
			}
		}
		s, e := shelf.Open(withRecords(t, good, rec))
		if e != api.OK && e != api.ErrDecode || (s == nil) != (e == api.ErrDecode) {
			t.Errorf("error %d", e)
		}
		told(s)
	}
}
