package audit_test

import (
	"bytes"
	"math/rand/v2"
	"slices"
	"testing"

	"casket/api"
	"casket/audit"
	"casket/client"
	"casket/msg"
	"casket/script"
	"casket/sibling"
)

var allNames = []string{"a", "b", "ab", "c"}

// model: the chapter's table, kind by kind.
func model(s *script.System, id int, names [][]byte) []audit.Finding {
	var out []audit.Finding
	c := s.Client(id)
	if c == nil {
		return nil
	}
	for r := 0; s.Cluster().Replica(r) != nil; r++ {
		shelf := s.Cluster().Replica(r).Shelf()
		for kind := 1; kind <= 4; kind++ {
			for _, key := range shelf.Keys() {
				if isFound(s, c, names, r, kind, key) {
					out = append(out, audit.Finding{Replica: r, Kind: kind, Key: key})
				}
			}
		}
	}
	return out
}

func isFound(s *script.System, c *client.Client, names [][]byte, r, kind int, key api.Blind) bool {
	set := s.Cluster().Replica(r).Shelf().Get(key)
	i := slices.IndexFunc(names, func(n []byte) bool {
		x, e := c.Key(n)
		return e == api.OK && x == key
	})
	switch {
	case kind == 1:
		return i < 0
	case kind == 4:
		for other := 0; s.Cluster().Replica(other) != nil; other++ {
			l := s.Cluster().Replica(other).Shelf().Get(key)
			if len(l) != 0 && !sibling.Same(set, l) {
				return true
			}
		}
		return false
	case i < 0:
		return false
	}
	l, passed, _ := c.Read(names[i], set)
	if kind == 2 {
		return passed != 0
	}
	for _, v := range l {
		if v.Epoch < c.Epoch() {
			return true
		}
	}
	return false
}

// life: a system, and steps that are drawn.
type life struct {
	t   *testing.T
	rng *rand.Rand
	c   script.Config
	s   *script.System
	own bool // of handles, only those of the name's Gets: with others' a write may come to a past that no sweep can go on with
}

func newLife(t *testing.T, rng *rand.Rand, ideal bool) *life {
	t.Helper()
	c := usual()
	c.Ideal, c.Clients = ideal, 1+rng.IntN(3)
	c.Cluster.Replicas = 1 + rng.IntN(4)
	c.Cluster.N = 1 + rng.IntN(c.Cluster.Replicas)
	c.Cluster.R, c.Cluster.W = 1+rng.IntN(c.Cluster.N), 1+rng.IntN(c.Cluster.N)
	c.Cluster.Sectors = 4000
	return &life{t: t, rng: rng, c: c, s: made(t, c)}
}

func (x *life) step(forged bool) {
	kinds := []int{1, 1, 1, 1, 1, 1, 2, 3, 3, 3, 3, 3, 3, 4, 5, 5, 7, 7, 8, 8, 9, 9, 10, 10, 11, 12, 13, 13, 14, 14, 15, 15, 16, 16, 16}
	y := script.Step{Client: 1 + x.rng.IntN(x.c.Clients), Name: x.name(), Value: []byte{byte(x.rng.IntN(256))}, Handle: x.rng.IntN(9), Box: x.rng.IntN(x.c.Cluster.Replicas + 1)}
	y.Kind = kinds[x.rng.IntN(len(kinds))]
	if x.own {
		y.Handle = x.handle(y.Name)
	}
	if x.rng.IntN(3) == 0 {
		y.Kind = script.Deliver
	}
	if n := x.s.Cluster().Net().Len(y.Box); n > 0 {
		y.K = x.rng.IntN(n)
	}
	switch y.Kind {
	case script.Fuse:
		y.K = 1 + x.rng.IntN(60)
	case script.Compare, script.Hand:
		y.K = x.rng.IntN(x.c.Cluster.Replicas)
	}
	if forged && x.rng.IntN(5) == 0 && x.s.Cluster().Net().Len(y.Box) > 0 {
		y.Kind, y.Raw = script.Forge, x.raw()
	}
	x.s.Do(y)
}

// handle: of one of the name's Gets, or none.
func (x *life) handle(name []byte) int {
	l := []int{0}
	for _, r := range x.s.Results() {
		if bytes.Equal(r.Name, name) && r.Handle > 0 {
			l = append(l, r.Handle)
		}
	}
	return l[x.rng.IntN(len(l))]
}

func (x *life) name() []byte { return []byte(allNames[x.rng.IntN(len(allNames))]) }

// raw: a Store, of a set that somebody wrote for any key, or something like it.
func (x *life) raw() []byte {
	l := x.s.Results()
	if len(l) == 0 {
		return nil
	}
	o, _ := x.s.Cluster().Op(2 * (1 + x.rng.IntN(len(l))))
	other, _ := x.s.Cluster().Op(2 * (1 + x.rng.IntN(len(l))))
	if len(o.Set) > 0 && x.rng.IntN(2) == 0 {
		o.Set[0].Dot.Number += x.rng.IntN(2)
	}
	if x.rng.IntN(9) == 0 {
		other.Key[31]++
	}
	m := msg.Msg{Kind: msg.Store, From: x.c.Cluster.Replicas, Ask: 2, Row: msg.Row{Key: other.Key}}
	m.Row.Set, _ = sibling.Write(o.Set)
	b, _ := msg.Write(m)
	return b
}

// some: of the names, and what isn't one, in any order.
func (x *life) some() [][]byte {
	names := [][]byte{nil, []byte("else")}
	for range x.rng.IntN(6) {
		names = append(names, x.name())
	}
	x.rng.Shuffle(len(names), func(i, k int) { names[i], names[k] = names[k], names[i] })
	return names
}

// P31.1: over drawn lives, crashes and forging, each look is as the chapter's table.
func TestDrawn(t *testing.T) {
	var kinds [5]int
	for seed := range uint64(60) {
		x := newLife(t, rand.New(rand.NewPCG(311, seed)), seed%2 == 0)
		for range 150 {
			x.step(true)
			id, names := x.rng.IntN(x.c.Clients+2), x.some()
			got, want := audit.Look(x.s, id, names), model(x.s, id, names)
			if !slices.Equal(got, want) {
				t.Fatalf("seed %d: %v, want %v", seed, got, want)
			}
			for _, f := range got {
				kinds[f.Kind]++
			}
		}
	}
	if slices.Min(kinds[1:]) < 200 {
		t.Errorf("too few: %v", kinds)
	}
}

// P31.2: without Forge, over loss, doubling, crashes and sweeps, by all names nothing is strange, and nothing closed.
func TestUnforged(t *testing.T) {
	found := 0
	for seed := range uint64(60) {
		x := newLife(t, rand.New(rand.NewPCG(312, seed)), seed%2 == 0)
		for range 200 {
			x.step(false)
			for _, f := range audit.Look(x.s, 1, namesOf(allNames...)) {
				found++
				if f.Kind == audit.Strange || f.Kind == audit.Closed {
					t.Fatalf("seed %d: %v", seed, f)
				}
			}
		}
	}
	if found < 1000 {
		t.Errorf("only %d findings at all", found)
	}
}

// told: the values of a Get, that all replicas answer, each as its bytes, rising.
func (x *life) told(id int, name string) []string {
	x.t.Helper()
	does(x.t, x.s, get(id, name), settle())
	l := x.s.Results()
	r := l[len(l)-1]
	if !r.Done || r.Err != api.OK || r.Passed != 0 {
		x.t.Fatalf("%q: %+v", name, r)
	}
	var out []string
	for _, v := range r.Values {
		says := "said " + string(v.Bytes)
		if v.Deleted {
			says = "deleted"
		}
		out = append(out, says)
	}
	slices.Sort(out)
	return out
}

// P7, P31.3: when a client has rotated, and swept each name behind a Get that all replicas answered, and all has come, nothing is elder, or apart, and a Get tells what was told ahead.
func TestSwept(t *testing.T) {
	elder, values := 0, 0
	for seed := range uint64(120) {
		rng := rand.New(rand.NewPCG(313, seed))
		x := newLife(t, rng, seed%2 == 0)
		x.c.Cluster.R = x.c.Cluster.N
		x.s, x.own = made(t, x.c), true
		for range 100 {
			x.step(false)
		}
		for r := range x.c.Cluster.Replicas {
			does(t, x.s, script.Step{Kind: script.Crash, Box: r}, script.Step{Kind: script.Up, Box: r})
		}
		id := 1 + rng.IntN(x.c.Clients)
		does(t, x.s, settle(), rotate(id))
		for x.s.Client(id).Epoch() < highest(x) {
			does(t, x.s, rotate(id))
		}
		ahead := map[string][]string{}
		for _, n := range allNames {
			ahead[n] = x.told(id, n)
			values += len(ahead[n])
		}
		for _, f := range audit.Look(x.s, id, namesOf(allNames...)) {
			if f.Kind == audit.Elder {
				elder++
			}
		}
		for _, n := range allNames {
			does(t, x.s, script.Step{Kind: script.Sweep, Client: id, Name: []byte(n)}, settle())
		}
		finds(t, "swept", x.s, id, namesOf(allNames...))
		for _, n := range allNames {
			if is := x.told(id, n); !slices.Equal(is, ahead[n]) {
				t.Errorf("seed %d, %q: %q, ahead %q", seed, n, is, ahead[n])
			}
		}
		for r := range x.c.Cluster.Replicas {
			for _, key := range x.s.Cluster().Replica(r).Shelf().Keys() {
				x.newEpoch(id, key, x.s.Cluster().Replica(r).Shelf().Get(key))
			}
		}
	}
	if elder < 200 || values < 500 {
		t.Errorf("only %d were elder, of %d values", elder, values)
	}
}

// highest: the epoch of the client that is furthest.
func highest(x *life) int {
	n := 0
	for id := 1; id <= x.c.Clients; id++ {
		n = max(n, x.s.Client(id).Epoch())
	}
	return n
}

// newEpoch: all siblings that are kept are of the client's epoch.
func (x *life) newEpoch(id int, key api.Blind, l []sibling.Sibling) {
	x.t.Helper()
	for _, n := range allNames {
		k, _ := x.s.Client(id).Key([]byte(n))
		if !bytes.Equal(k[:], key[:]) {
			continue
		}
		values, _, _ := x.s.Client(id).Read([]byte(n), l)
		for _, v := range values {
			if v.Epoch != x.s.Client(id).Epoch() {
				x.t.Errorf("%q: %+v", n, v)
			}
		}
	}
}
