package view_test

import (
	"bytes"
	"encoding/binary"
	"math"
	"slices"
	"testing"

	"casket/api"
	"casket/cluster"
	"casket/script"
	"casket/sibling"
	"casket/view"
)

const many = 1 << 62 // what numbers below 0 are told as

// usual: four replicas, three of which each key belongs to.
func usual() script.Config {
	c := cluster.Config{Replicas: 4, Points: 3, N: 3, R: 2, W: 2, Wait: 5, Sectors: 400}
	return script.Config{Cluster: c, Clients: 3, Ideal: true, Seed: [32]byte{3, 0}}
}

func made(t *testing.T, c script.Config) *script.System {
	t.Helper()
	s, e := script.New(c)
	if e != api.OK {
		t.Fatalf("New: error %d", e)
	}
	return s
}

func does(t *testing.T, s *script.System, l ...script.Step) {
	t.Helper()
	for i, x := range l {
		if e := s.Do(x); e != api.OK {
			t.Fatalf("step %d (%+v): error %d", i, x, e)
		}
	}
}

func put(client int, name, value string) script.Step {
	return script.Step{Kind: script.Put, Client: client, Name: []byte(name), Value: []byte(value)}
}

func get(client int, name string) script.Step {
	return script.Step{Kind: script.Get, Client: client, Name: []byte(name)}
}

func settle() script.Step { return script.Step{Kind: script.Settle} }

// num: in eight bytes; counted: bytes behind their count in four.
func num(b []byte, n int) []byte { return binary.BigEndian.AppendUint64(b, uint64(n)) }

func counted(b, part []byte) []byte {
	return append(binary.BigEndian.AppendUint32(b, uint32(len(part))), part...)
}

// set: a key's siblings, as bytes.
func set(b []byte, key api.Blind, l []sibling.Sibling) []byte {
	x, _ := sibling.Write(l)
	return counted(append(b, key[:]...), x)
}

// ofModel: what the chapter tells of a replica.
func ofModel(s *script.System, r int) []byte {
	c := s.Cluster()
	seen := c.Net().Seen(r)
	b := num(nil, len(seen))
	for _, m := range seen {
		b = counted(b, m)
	}
	shelf := c.Replica(r).Shelf()
	b = num(b, len(shelf.Keys()))
	for _, key := range shelf.Keys() {
		b = set(b, key, shelf.Get(key))
	}
	for to := range 8 {
		b = num(b, len(shelf.Hints(to)))
		for _, h := range shelf.Hints(to) {
			b = set(b, h.Key, h.Set)
		}
	}
	return counted(b, c.Image(r))
}

// same: all replicas' views are the model's.
func same(t *testing.T, what string, s *script.System, replicas int) {
	t.Helper()
	for r := range replicas {
		if got, want := view.Of(s, r), ofModel(s, r); !bytes.Equal(got, want) {
			t.Fatalf("%s: replica %d sees %d bytes, want %d: %x", what, r, len(got), len(want), got[:min(200, len(got))])
		}
	}
}

// P30.1: of a new system nothing was seen, and nothing is kept; all that is told is counts, and the disk.
func TestOfNew(t *testing.T) {
	s := made(t, usual())
	image := s.Cluster().Image(2)
	want := slices.Concat(make([]byte, 8*(1+1+8)), []byte{0, 0, 0x64, 0}, image)
	if got := view.Of(s, 2); !bytes.Equal(got, want) || len(image) != 400*64 {
		t.Errorf("%x", got)
	}
}

// P30.1: messages, keys, hints and the disk, one behind the other.
func TestOf(t *testing.T) {
	s := made(t, usual())
	same(t, "new", s, 4)
	does(t, s, put(1, "a", "x"), put(2, "b", "y"))
	same(t, "under way", s, 4) // what waits wasn't seen
	does(t, s, settle())
	same(t, "settled", s, 4)
	first := 0
	for len(s.Cluster().Net().Seen(first)) == 0 {
		first++
	}
	does(t, s, script.Step{Kind: script.Down, Box: first}, put(3, "a", "z"), put(1, "c", "v"), put(1, "b", "w"), settle())
	hints := 0
	for r := range 4 {
		for to := range 8 {
			hints += len(s.Cluster().Replica(r).Shelf().Hints(to))
		}
	}
	if hints == 0 {
		t.Error("nobody keeps a hint")
	}
	same(t, "hints", s, 4)
	does(t, s, script.Step{Kind: script.Up, Box: first}, get(2, "a"), settle(), script.Step{Kind: script.Fuse, Box: first, K: 2}, put(2, "a", "u"), settle())
	if !bytes.Contains(view.Of(s, first), make([]byte, 300)) || s.Do(script.Step{Kind: script.Compare, Box: first, K: (first + 1) % 4}) != api.ErrDown {
		t.Error("it has power")
	}
	same(t, "without power", s, 4)
	does(t, s, script.Step{Kind: script.Crash, Box: first})
	same(t, "crash", s, 4)
}

// P30.1: who knows what a replica has seen knows what came, also what was lost, or forged.
func TestOfSeen(t *testing.T) {
	s := made(t, usual())
	does(t, s, put(1, "a", "x"))
	r := 0
	for s.Cluster().Net().Len(r) == 0 {
		r++
	}
	raw := []byte("forged")
	does(t, s, script.Step{Kind: script.Twice, Box: r}, script.Step{Kind: script.Forge, Box: r, K: 0, Raw: raw}, script.Step{Kind: script.Lose, Box: r, K: 0})
	got := view.Of(s, r)
	if n := binary.BigEndian.Uint64(got); n != 2 {
		t.Errorf("%d messages, want 2", n)
	}
	if size := int(binary.BigEndian.Uint32(got[8:])); !bytes.Equal(counted(nil, got[12:12+size]), got[12+size:][:4+size]) || bytes.Contains(got, raw) {
		t.Errorf("%x", got[:300])
	}
	if other := view.Of(s, (r+1)%4); binary.BigEndian.Uint64(other) != 0 {
		t.Error("another replica's messages are told")
	}
}

// P1, P30.1: of no such replica, the front, and of no system there is nothing.
func TestOfNone(t *testing.T) {
	s := made(t, usual())
	does(t, s, put(1, "a", "x"), settle())
	for _, r := range []int{-1, 4, 5, 8, 9, math.MaxInt, math.MinInt} {
		if b := view.Of(s, r); len(b) != 0 {
			t.Errorf("replica %d: %x", r, b)
		}
	}
	for r := range 5 {
		if len(view.Of(nil, r)) != 0 || len(view.Of(new(script.System), r)) != 0 {
			t.Errorf("replica %d of no system", r)
		}
	}
}

// step: the bytes of one, of its parts.
func step(kind, client, handle, box, k, name int, class byte, stay []byte, raw string) []byte {
	var b []byte
	for _, n := range []int{kind, client, handle, box, k, name} {
		b = num(b, n)
	}
	b = append(num(append(b, class), len(stay)), stay...)
	return counted(b, []byte(raw))
}

func leaks(t *testing.T, what string, l []script.Step, want ...[]byte) {
	t.Helper()
	if got := view.Leak(l); !bytes.Equal(got, slices.Concat(want...)) {
		t.Errorf("%s: %x, want %x", what, got, slices.Concat(want...))
	}
}

// P30.1: the chapter's example, and a step's parts in their order.
func TestLeak(t *testing.T) {
	leaks(t, "none", nil)
	leaks(t, "none", []script.Step{})
	leaks(t, "nothing", []script.Step{{}}, step(0, 0, 0, 0, 0, 0, 0, nil, ""))
	x := script.Step{Kind: 1, Client: 2, Handle: 3, Box: 4, K: 5, Name: []byte("n"), Value: []byte("value"), Stay: []bool{true, false, true}, Raw: []byte("raw")}
	leaks(t, "all", []script.Step{x, x}, step(1, 2, 3, 4, 5, 1, 1, []byte{1, 0, 1}, "raw"), step(1, 2, 3, 4, 5, 1, 1, []byte{1, 0, 1}, "raw"))
}

// P30.1: what is below 0 is told as 2^62, all else as it is.
func TestLeakNumbers(t *testing.T) {
	for _, n := range []int{-1, -2, -many, math.MinInt, 0, 1, 255, 256, 1 << 40, many, many + 1, math.MaxInt} {
		w := n
		if n < 0 {
			w = many
		}
		class := byte(0)
		if n == script.Put {
			class = 1
		}
		leaks(t, "Kind", []script.Step{{Kind: n}}, step(w, 0, 0, 0, 0, 0, class, nil, ""))
		leaks(t, "Client", []script.Step{{Client: n}}, step(0, w, 0, 0, 0, 0, 0, nil, ""))
		leaks(t, "Handle", []script.Step{{Handle: n}}, step(0, 0, w, 0, 0, 0, 0, nil, ""))
		leaks(t, "Box", []script.Step{{Box: n}}, step(0, 0, 0, w, 0, 0, 0, nil, ""))
		leaks(t, "K", []script.Step{{K: n}}, step(0, 0, 0, 0, w, 0, 0, nil, ""))
	}
}

// P30.1: names are numbered as they come, by the kinds that have one; of what is no name: 0.
func TestLeakNames(t *testing.T) {
	long, longest := make([]byte, 65), make([]byte, 64)
	var l []script.Step
	var want [][]byte
	add := func(kind int, name []byte, n int) {
		class := byte(0)
		if kind == script.Put {
			class = 1
		}
		l = append(l, script.Step{Kind: kind, Name: name})
		want = append(want, step(kind, 0, 0, 0, 0, n, class, nil, ""))
	}
	add(script.Tick, []byte("ahead"), 0)
	add(script.Get, []byte("b"), 1)
	add(script.Put, nil, 0)
	add(script.Put, []byte("a"), 2)
	add(script.Delete, []byte("b"), 1)
	add(script.Sweep, longest, 3)
	add(script.Put, long, 0)
	add(script.Get, []byte{}, 0)
	add(script.Delete, []byte("ab"), 4)
	add(script.Sweep, []byte("c"), 5)
	add(script.Delete, long, 0)
	add(script.Put, []byte("c"), 5)
	add(script.Get, []byte("a"), 2)
	for _, kind := range []int{0, script.Rotate, script.Deliver, script.Lose, script.Twice, script.Tick, script.Up, script.Down, script.Fuse, script.Crash, script.Compare, script.Hand, script.Settle, script.Forge, 18, 99} {
		add(kind, []byte("a"), 0)
		add(kind, []byte{byte(kind), 9}, 0)
	}
	add(script.Get, []byte("ahead"), 6)
	leaks(t, "names", l, want...)
}

// P30.1: the class of a Put alone, of one byte more than its value has.
func TestLeakClasses(t *testing.T) {
	for _, x := range []struct {
		size  int
		class byte
	}{{0, 1}, {1, 1}, {58, 1}, {59, 1}, {60, 2}, {61, 2}, {250, 2}, {251, 2}, {252, 3}, {1018, 3}, {1019, 3}, {1020, 4}, {3998, 4}, {3999, 4}, {4000, 0}, {4001, 0}, {1 << 17, 0}} {
		for kind := range 20 {
			class, name := x.class, 0
			if kind != script.Put {
				class = 0
			}
			if kind == 1 || kind == 2 || kind == 3 || kind == 5 {
				name = 1
			}
			leaks(t, "class", []script.Step{{Kind: kind, Name: []byte("n"), Value: make([]byte, x.size)}}, step(kind, 0, 0, 0, 0, name, class, nil, ""))
		}
	}
	leaks(t, "no name", []script.Step{{Kind: script.Put, Value: make([]byte, 1000)}}, step(1, 0, 0, 0, 0, 0, 3, nil, ""))
}

// P30.3: what is handed in isn't kept or changed, answers are new memory.
func TestMemory(t *testing.T) {
	x := script.Step{Kind: script.Put, Client: 1, Name: []byte("name.")[:4], Value: []byte("value.")[:5], Stay: []bool{true, false, true}[:2], Raw: []byte("raw.")[:3]}
	l := []script.Step{x, x, {Kind: 99}}[:2]
	first := view.Leak(l)
	for _, x := range l {
		if string(x.Name[:5]) != "name." || string(x.Value[:6]) != "value." || !slices.Equal(x.Stay[:3], []bool{true, false, true}) || string(x.Raw[:4]) != "raw." {
			t.Errorf("%+v was changed", x)
		}
	}
	if l[:3][2].Kind != 99 {
		t.Error("the steps' spare room was changed")
	}
	want := slices.Clone(first)
	clear(first[:cap(first)])
	clear(x.Raw[:0])
	if got := view.Leak(l); !bytes.Equal(got, want) {
		t.Errorf("%x, want %x", got, want)
	}
	s := made(t, usual())
	does(t, s, put(1, "a", "x"), script.Step{Kind: script.Down, Box: 1}, put(2, "b", "y"), settle())
	for r := range 4 {
		got := view.Of(s, r)
		want := slices.Clone(got)
		for i := range got {
			got[i] ^= 0xff
		}
		if again := view.Of(s, r); !bytes.Equal(again, want) {
			t.Errorf("replica %d: an answer's memory is kept", r)
		}
		same(t, "behind answers", s, 4)
	}
}
