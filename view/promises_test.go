package view_test

import (
	"bytes"
	"math"
	"math/rand/v2"
	"slices"
	"testing"

	"casket/api"
	"casket/msg"
	"casket/script"
	"casket/sibling"
	"casket/view"
)

// twins: two systems, whose steps differ in names and values alone.
type twins struct {
	t        *testing.T
	rng      *rand.Rand
	c        script.Config
	systems  [2]*script.System
	names    [][2][]byte // those that can be, in pairs
	steps    [2][]script.Step
	refused  int
	sizesFor [][2]int
}

// bytesOf: drawn ones.
func bytesOf(rng *rand.Rand, n int) []byte {
	b := make([]byte, n)
	for i := range b {
		b[i] = byte(rng.IntN(256))
	}
	return b
}

func newTwins(t *testing.T, seed uint64) *twins {
	t.Helper()
	rng := rand.New(rand.NewPCG(302, seed))
	c := usual()
	c.Cluster.Replicas = 1 + rng.IntN(4)
	c.Cluster.N = 1 + rng.IntN(c.Cluster.Replicas)
	c.Cluster.R, c.Cluster.W = 1+rng.IntN(c.Cluster.N), 1+rng.IntN(c.Cluster.N)
	c.Cluster.Sectors = 200 + rng.IntN(800)
	x := &twins{t: t, rng: rng, c: c, systems: [2]*script.System{made(t, c), made(t, c)}}
	for i := range byte(5) {
		x.names = append(x.names, [2][]byte{append(bytesOf(rng, rng.IntN(64)), i), append(bytesOf(rng, rng.IntN(64)), i)})
	}
	x.sizesFor = [][2]int{{0, 59}, {0, 59}, {0, 59}, {60, 251}, {252, 1019}, {1020, 3999}, {4000, 4100}}
	return x
}

// name: of each system: mostly one that can be.
func (x *twins) name() (a, b []byte) {
	if x.rng.IntN(25) > 0 {
		n := x.names[x.rng.IntN(len(x.names))]
		return n[0], n[1]
	}
	none := [][]byte{nil, make([]byte, 65), bytesOf(x.rng, 70), {}}
	return none[x.rng.IntN(4)], none[x.rng.IntN(4)]
}

// value: of each system, of one class.
func (x *twins) value() (a, b []byte) {
	sizes := x.sizesFor[x.rng.IntN(len(x.sizesFor))]
	size := func() int { return sizes[0] + x.rng.IntN(sizes[1]-sizes[0]+1) }
	return bytesOf(x.rng, size()), bytesOf(x.rng, size())
}

// drawn: a step for each.
func (x *twins) drawn() (a, b script.Step) {
	kinds := []int{1, 1, 1, 1, 1, 1, 2, 2, 3, 3, 3, 3, 3, 3, 3, 4, 5, 5, 5, 7, 8, 8, 9, 9, 9, 10, 10, 10, 11, 12, 13, 13, 14, 14, 15, 15, 16, 16, 16, 16, 16, 17, 17, 17, 17, 17, 17, 17, 0, 18, -5}
	a.Kind, a.Client, a.Box, a.Handle = kinds[x.rng.IntN(len(kinds))], 1+x.rng.IntN(3), x.rng.IntN(x.c.Cluster.Replicas+1), x.rng.IntN(8)
	if x.rng.IntN(3) == 0 {
		a.Kind = script.Deliver
	}
	if a.Kind == script.Forge && x.rng.IntN(2) == 0 {
		a.Box = x.c.Cluster.Replicas
	}
	for range 12 {
		if x.systems[0].Cluster().Net().Len(a.Box) > 0 {
			break
		}
		a.Box = x.rng.IntN(x.c.Cluster.Replicas + 1)
	}
	switch n := x.systems[0].Cluster().Net().Len(a.Box); {
	case a.Kind == script.Fuse:
		a.K = 1 + x.rng.IntN(60)
	case a.Kind == script.Compare || a.Kind == script.Hand:
		a.K = x.rng.IntN(x.c.Cluster.Replicas)
	case n > 0:
		a.K = x.rng.IntN(n)
	}
	for range x.rng.IntN(6) {
		a.Stay = append(a.Stay, x.rng.IntN(2) == 0)
	}
	if a.Kind == script.Forge || x.rng.IntN(20) == 0 {
		a.Raw = x.raw(a.Box)
	}
	switch x.rng.IntN(50) {
	case 0:
		a.Client = x.rng.IntN(20) - 9
	case 1:
		a.Box = x.rng.IntN(30) - 15
	case 2:
		a.K = -x.rng.IntN(3)
	case 3:
		a.Handle = -1
	}
	b = a
	a.Name, b.Name = x.name()
	a.Value, b.Value = x.value()
	if a.Kind != script.Put && x.rng.IntN(2) == 0 { // which isn't looked at
		b.Value = bytesOf(x.rng, x.rng.IntN(5000))
	}
	return a, b
}

// raw: what is forged: of what one sees on the net, which is the same for both.
func (x *twins) raw(box int) []byte {
	seen := x.systems[0].Cluster().Net().Seen(x.rng.IntN(x.c.Cluster.Replicas + 1))
	if len(seen) == 0 || x.rng.IntN(8) == 0 {
		return bytesOf(x.rng, x.rng.IntN(40))
	}
	b := seen[x.rng.IntN(len(seen))]
	if len(b) > 0 && x.rng.IntN(4) == 0 {
		b[x.rng.IntN(len(b))] ^= 1 << x.rng.IntN(8)
		return b
	}
	m := msg.Msg{Kind: msg.Store, From: x.rng.IntN(x.c.Cluster.Replicas), Ask: 2}
	for i, r := range x.systems[0].Results() {
		if o, e := x.systems[0].Cluster().Op(2 * (i + 1)); e == api.OK && !r.Put && !r.Done {
			m.Ask, m.Row.Key = 2*(i+1), o.Key
		}
	}
	if box == x.c.Cluster.Replicas {
		m.Kind = msg.Fetched
	}
	m.Row.Set, _ = sibling.Write(x.forged(seen))
	out, _ := msg.Write(m)
	return out
}

// forged: siblings of a message that was seen, or something like them.
func (x *twins) forged(seen [][]byte) []sibling.Sibling {
	for range 20 {
		m, e := msg.Read(seen[x.rng.IntN(len(seen))])
		if e != api.OK {
			continue
		}
		l, e := sibling.Read(m.Row.Set)
		if e != api.OK || len(l) == 0 {
			continue
		}
		switch x.rng.IntN(4) {
		case 0:
			l[0].Dot.Number++
		case 1:
			l[0].Body = append(l[0].Body, 1)
		}
		if sibling.Check(l) == api.OK {
			return l
		}
	}
	return nil
}

// step: of both; it is the same for each replica.
func (x *twins) step() {
	x.t.Helper()
	a, b := x.drawn()
	x.steps[0], x.steps[1] = append(x.steps[0], a), append(x.steps[1], b)
	e, other := x.systems[0].Do(a), x.systems[1].Do(b)
	if e != other {
		x.t.Fatalf("%+v and %+v: errors %d, %d", a, b, e, other)
	}
	if e != api.OK {
		x.refused++
	}
	for r := range x.c.Cluster.Replicas {
		if !bytes.Equal(view.Of(x.systems[0], r), view.Of(x.systems[1], r)) {
			x.t.Fatalf("replica %d sees the difference behind %+v and %+v", r, a, b)
		}
	}
}

// P2, P30.2: over drawn steps, crashes and forging, names and values change no replica's view; the steps' Leak is the same.
func TestTwins(t *testing.T) {
	told, passed, refused := 0, 0, 0
	for seed := range uint64(40) {
		x := newTwins(t, seed)
		for range 200 {
			x.step()
		}
		if !bytes.Equal(view.Leak(x.steps[0]), view.Leak(x.steps[1])) {
			t.Fatalf("seed %d: the scripts let unlike things be seen", seed)
		}
		for i, r := range x.systems[0].Results() {
			other := x.systems[1].Results()[i]
			if len(r.Values) != len(other.Values) || r.Passed != other.Passed {
				t.Fatalf("seed %d: %+v and %+v", seed, r, other)
			}
			told, passed = told+len(r.Values), passed+r.Passed
		}
		refused += x.refused
	}
	if told < 300 || passed < 30 || refused < 500 {
		t.Errorf("only %d values told, %d passed over, %d steps refused", told, passed, refused)
	}
}

// P30.1: all along, a view is as the chapter tells it.
func TestDrawn(t *testing.T) {
	for seed := range uint64(20) {
		x := newTwins(t, 1000+seed)
		for range 60 {
			a, _ := x.drawn()
			x.systems[0].Do(a)
			same(t, "drawn", x.systems[0], x.c.Cluster.Replicas)
		}
	}
}

// seenOf: of a script all views behind it.
func seenOf(t *testing.T, l []script.Step) []byte {
	t.Helper()
	s := made(t, usual())
	for _, x := range l {
		s.Do(x)
	}
	var out []byte
	for r := range 4 {
		out = append(out, view.Of(s, r)...)
	}
	return out
}

// P30.2: what Leak tells apart can be seen: which names are the same, a value's class, and that it is deleted. What it doesn't can't.
func TestSeen(t *testing.T) {
	first := []script.Step{put(1, "a", "x"), put(1, "b", "y"), put(2, "a", "z"), settle(), get(1, "a"), settle()}
	change := func(at int, by script.Step) []script.Step {
		l := slices.Clone(first)
		l[at] = by
		return l
	}
	long := string(make([]byte, 60))
	for i, x := range []struct {
		l    []script.Step
		same bool
	}{
		{first, true},
		{change(1, put(1, "b", "another")), true},
		{change(1, put(1, "c", "y")), true},
		{change(1, put(1, "b", long[:59])), true},
		{change(1, put(1, "b", long)), false},
		{change(2, put(2, "b", "z")), false},
		{change(2, put(2, "c", "z")), false},
		{change(0, put(2, "a", "x")), false},
		{change(4, get(1, "b")), false},
		{change(1, script.Step{Kind: script.Delete, Client: 1, Name: []byte("b")}), false}, // by its Kind alone: the bytes are of the same class
	} {
		if is := bytes.Equal(view.Leak(x.l), view.Leak(first)); is != x.same {
			t.Errorf("%d: Leak is the same: %t", i, is)
		}
		if is := bytes.Equal(seenOf(t, x.l), seenOf(t, first)); i < 9 && is != x.same {
			t.Errorf("%d: the views are the same: %t", i, is)
		}
	}
}

// P30.2: all numbers below 0, and 2^62, do the same.
func TestSeenNumbers(t *testing.T) {
	for kind := range 19 {
		for _, change := range []func(x *script.Step, n int){
			func(x *script.Step, n int) { x.Kind = n },
			func(x *script.Step, n int) { x.Client = n },
			func(x *script.Step, n int) { x.Handle = n },
			func(x *script.Step, n int) { x.Box = n },
			func(x *script.Step, n int) { x.K = n },
		} {
			script := func(n int) []script.Step {
				x := script.Step{Kind: kind, Client: 1, Box: 1, K: 0, Name: []byte("a"), Value: []byte("v")}
				change(&x, n)
				return []script.Step{put(1, "a", "x"), settle(), get(2, "a"), settle(), put(2, "a", "y"), x, put(3, "b", "z"), settle(), get(1, "a"), settle()}
			}
			first := seenOf(t, script(-1))
			for _, n := range []int{-2, math.MinInt, 1 << 62} {
				if !bytes.Equal(view.Leak(script(-1)), view.Leak(script(n))) || !bytes.Equal(first, seenOf(t, script(n))) {
					t.Errorf("kind %d: %d can be told from -1", kind, n)
				}
			}
		}
	}
}
