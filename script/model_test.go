package script_test

import (
	"bytes"
	"math/rand/v2"
	"slices"
	"testing"

	"casket/api"
	"casket/client"
	"casket/cluster"
	"casket/dot"
	"casket/msg"
	"casket/script"
	"casket/sibling"
	"casket/vault"
)

var names = [][]byte{[]byte("a"), []byte("b"), []byte("ab")}

// model: a system as the chapter tells it, of a cluster and clients of its own.
type model struct {
	cluster *cluster.Cluster
	clients []*client.Client
	step    int
	results []script.Result
	asks    []int
	handles []dot.Context
}

func newModel(t *testing.T, c script.Config) *model {
	t.Helper()
	m := new(model)
	var e api.Errno
	if m.cluster, e = cluster.New(c.Cluster); e != api.OK {
		t.Fatal(e)
	}
	v := vault.Real(c.Seed)
	if c.Ideal {
		v = vault.Ideal(c.Seed)
	}
	for i := range c.Clients {
		x, e := client.New(i+1, v)
		if e != api.OK {
			t.Fatal(e)
		}
		m.clients = append(m.clients, x)
	}
	return m
}

// Do: the step, then a look at all results.
func (m *model) Do(x script.Step) api.Errno {
	e := m.do(x)
	m.step++
	for i := range m.results {
		r := &m.results[i]
		o, err := m.cluster.Op(m.asks[i])
		if r.Done || err != api.OK || !o.Done {
			continue
		}
		r.Done, r.Err = true, o.Err
		if r.Put || r.Err != api.OK {
			continue
		}
		r.Values, r.Passed, _ = m.clients[r.Client-1].Read(r.Name, o.Set)
		var all dot.Context
		for _, v := range r.Values {
			if c, e := dot.Add(all, v.Dot); e != api.ErrContext {
				all = c
			}
			if c, e := dot.Join(all, v.Past); e != api.ErrContext {
				all = c
			}
		}
		m.handles = append(m.handles, all)
		r.Handle = len(m.handles)
	}
	return e
}

func (m *model) do(x script.Step) api.Errno {
	isClient := x.Client >= 1 && x.Client <= len(m.clients)
	switch x.Kind {
	case 1, 2:
		if !isClient {
			return api.ErrArg
		}
		var seen dot.Context
		if x.Handle >= 1 && x.Handle <= len(m.handles) {
			seen = m.handles[x.Handle-1]
		}
		key, s, e := m.clients[x.Client-1].Write(x.Name, x.Value, x.Kind == 2, seen)
		if e != api.OK {
			return e
		}
		return m.put(x, key, s)
	case 3:
		if !isClient {
			return api.ErrArg
		}
		key, e := m.clients[x.Client-1].Key(x.Name)
		if e != api.OK {
			return e
		}
		ask, e := m.cluster.Get(key)
		m.begin(x, ask, false)
		return e
	case 4:
		if !isClient {
			return api.ErrArg
		}
		return m.clients[x.Client-1].Rotate()
	case 5:
		if !isClient {
			return api.ErrArg
		}
		return m.sweep(x)
	case 6:
		return m.cluster.Deliver(x.Box, x.K)
	case 7:
		return m.cluster.Lose(x.Box, x.K)
	case 8:
		return m.cluster.Twice(x.Box, x.K)
	}
	return m.more(x)
}

func (m *model) more(x script.Step) api.Errno {
	switch x.Kind {
	case 9:
		m.cluster.Tick()
	case 10:
		m.cluster.Up(x.Box, true)
	case 11:
		m.cluster.Up(x.Box, false)
	case 12:
		m.cluster.Fuse(x.Box, x.K)
	case 13:
		return m.cluster.Crash(x.Box, x.Stay)
	case 14:
		return m.cluster.Compare(x.Box, x.K)
	case 15:
		return m.cluster.Hand(x.Box, x.K)
	case 16:
		m.cluster.Settle()
	case 17:
		if _, e := m.cluster.Net().Take(x.Box, x.K); e != api.OK {
			return e
		}
		return m.cluster.Net().Send(x.Box, x.Raw)
	default:
		return api.ErrArg
	}
	return api.OK
}

func (m *model) begin(x script.Step, ask int, put bool) {
	m.results = append(m.results, script.Result{Step: m.step, Client: x.Client, Name: x.Name, Put: put})
	m.asks = append(m.asks, ask)
}

func (m *model) put(x script.Step, key api.Blind, s sibling.Sibling) api.Errno {
	ask, e := m.cluster.Put(key, s)
	m.begin(x, ask, true)
	return e
}

// sweep: written out, of what the last Get's Set says.
func (m *model) sweep(x script.Step) api.Errno {
	var set []sibling.Sibling
	for i, r := range m.results {
		if !r.Put && r.Done && r.Err == api.OK && bytes.Equal(r.Name, x.Name) {
			o, _ := m.cluster.Op(m.asks[i])
			set = o.Set
		}
	}
	c := m.clients[x.Client-1]
	l, passed, e := c.Read(x.Name, set)
	if e == api.ErrArg && passed == 0 {
		return e
	}
	var out []sibling.Sibling
	var key api.Blind
	for _, v := range l {
		if v.Epoch >= c.Epoch() {
			continue
		}
		seen, e := dot.Add(v.Past, v.Dot)
		if e != api.OK {
			return e
		}
		k, s, e := c.Write(x.Name, v.Bytes, v.Deleted, seen)
		if e != api.OK {
			return e
		}
		key, out = k, append(out, s)
	}
	for _, s := range out {
		if e := m.put(x, key, s); e != api.OK {
			return e
		}
	}
	return api.OK
}

// drawn: a step, now and then of what there isn't.
func drawn(rng *rand.Rand, m *model, replicas int) script.Step {
	x := script.Step{
		Client: 1 + rng.IntN(len(m.clients)), Name: names[rng.IntN(len(names))], Value: []byte{byte(rng.IntN(256))},
		Box: rng.IntN(replicas + 1), Handle: rng.IntN(len(m.handles) + 2),
	}
	for range 12 {
		if n := m.cluster.Net().Len(x.Box); n > 0 {
			x.K = rng.IntN(n)
			break
		}
		x.Box = rng.IntN(replicas + 1)
	}
	kinds := []int{1, 1, 1, 1, 1, 1, 2, 3, 3, 3, 3, 3, 3, 4, 5, 5, 7, 8, 8, 9, 10, 10, 11, 12, 13, 13, 13, 14, 14, 15, 16, 16, 17, 17, 17, 17, 17, 17}
	x.Kind = kinds[rng.IntN(len(kinds))]
	if rng.IntN(2) == 0 {
		x.Kind = 6
	}
	switch x.Kind {
	case 10, 11, 13, 14, 15:
		x.K = rng.IntN(replicas)
		x.Stay = []bool{rng.IntN(2) == 0, rng.IntN(2) == 0}
	case 12:
		x.K = 1 + rng.IntN(30)
	case 17:
		x.Raw = forged(rng, m, x.Box, replicas)
	}
	switch rng.IntN(60) {
	case 0:
		x.Client = rng.IntN(30) - 9
	case 1:
		x.Name = noNames[rng.IntN(len(noNames))]
	case 2:
		x.Box = rng.IntN(20) - 9
	case 3:
		x.K = rng.IntN(200) - 99
	case 4:
		x.Handle = rng.IntN(200) - 99
	case 5:
		x.Kind = rng.IntN(40) - 9
	case 6:
		x.Value = make([]byte, 3990+rng.IntN(20))
	}
	return x
}

// forged: bytes of the adversary's: what was said ahead, or something like it, or an answer, or a write, that nobody made.
func forged(rng *rand.Rand, m *model, box, replicas int) []byte {
	seen := m.cluster.Net().Seen(rng.IntN(replicas + 1))
	if len(seen) > 0 && rng.IntN(3) == 0 {
		b := seen[rng.IntN(len(seen))]
		if rng.IntN(2) == 0 {
			b[rng.IntN(len(b))] ^= 1 << rng.IntN(8)
		}
		return b
	}
	x := msg.Msg{Kind: msg.Store, From: rng.IntN(replicas)}
	if len(m.asks) > 0 {
		x.Ask = m.asks[rng.IntN(len(m.asks))]
	}
	if rng.IntN(4) == 0 {
		x.Kind = msg.Hold
	}
	if box == replicas {
		x.Kind = msg.Fetched
		for i, r := range m.results {
			if !r.Put && !r.Done {
				x.Ask = m.asks[i]
			}
		}
	}
	o, _ := m.cluster.Op(x.Ask)
	x.Row.Key = o.Key
	x.Row.Set, _ = sibling.Write(forgedSet(rng, m))
	b, _ := msg.Write(x)
	return b
}

// forgedSet: siblings of any writes, or something like them.
func forgedSet(rng *rand.Rand, m *model) []sibling.Sibling {
	var out []sibling.Sibling
	for range rng.IntN(4) {
		if len(m.asks) == 0 {
			break
		}
		o, _ := m.cluster.Op(m.asks[rng.IntN(len(m.asks))])
		for _, s := range o.Set {
			switch rng.IntN(8) {
			case 0:
				s.Dot = at(1+rng.IntN(4), 1+rng.IntN(9))
			case 1:
				s.Past = past(at(1+rng.IntN(4), 1+rng.IntN(9)))
			case 2:
				s.Body[len(s.Body)-1-rng.IntN(min(len(s.Body), 90))] ^= 1 << rng.IntN(8)
			}
			if more, e := sibling.Put(out, s); e == api.OK {
				out = more
			}
		}
	}
	return out
}

// P29.1: drawn lives of systems, held step by step against one that does it all by the layers below.
func TestDrawn(t *testing.T) {
	begun, told, passed, refused := 0, 0, 0, 0
	for seed := range uint64(60) {
		rng := rand.New(rand.NewPCG(29, seed))
		c := usual()
		c.Ideal, c.Clients = seed%2 == 0, 1+rng.IntN(4)
		c.Cluster.Replicas = 1 + rng.IntN(5)
		c.Cluster.N = 1 + rng.IntN(c.Cluster.Replicas)
		c.Cluster.R, c.Cluster.W = 1+rng.IntN(c.Cluster.N), 1+rng.IntN(c.Cluster.N)
		c.Cluster.Sectors = 300 + rng.IntN(1500)
		s, m := made(t, c), newModel(t, c)
		for range 250 {
			x := drawn(rng, m, c.Cluster.Replicas)
			e, want := s.Do(x), m.Do(x)
			if e != want {
				t.Fatalf("seed %d, step %d (%+v): error %d, want %d", seed, m.step-1, x, e, want)
			}
			if e != api.OK {
				refused++
			}
			sameState(t, seed, s, m, c)
		}
		begun += len(m.results)
		for _, r := range m.results {
			told, passed = told+len(r.Values), passed+r.Passed
		}
	}
	if begun < 2000 || told < 500 || passed < 50 || refused < 1000 {
		t.Errorf("only %d operations, %d values, %d passed over, %d steps refused", begun, told, passed, refused)
	}
}

// sameState: results, handles, clients, disks and boxes are as the model's.
func sameState(t *testing.T, seed uint64, s *script.System, m *model, c script.Config) {
	t.Helper()
	if got := s.Results(); !slices.EqualFunc(got, m.results, sameResult) {
		t.Fatalf("seed %d, behind step %d: %+v, want %+v", seed, m.step-1, got, m.results)
	}
	for h := -1; h <= len(m.handles)+1; h++ {
		var want dot.Context
		if h >= 1 && h <= len(m.handles) {
			want = m.handles[h-1]
		}
		if got := s.Context(h); !dot.Same(got, want) {
			t.Fatalf("seed %d, behind step %d: handle %d is %v, want %v", seed, m.step-1, h, got, want)
		}
	}
	for i, x := range m.clients {
		if y := s.Client(i + 1); y.Epoch() != x.Epoch() || y.Sealed() != x.Sealed() {
			t.Fatalf("seed %d, behind step %d: client %d: %d, %d, want %d, %d", seed, m.step-1, i+1, y.Epoch(), y.Sealed(), x.Epoch(), x.Sealed())
		}
	}
	if m.step%10 != 0 {
		return
	}
	for r := range c.Cluster.Replicas {
		if !bytes.Equal(s.Cluster().Image(r), m.cluster.Image(r)) {
			t.Fatalf("seed %d, behind step %d: another image of replica %d", seed, m.step-1, r)
		}
	}
	for b := range c.Cluster.Replicas + 1 {
		got, want := s.Cluster().Net(), m.cluster.Net()
		if got.Len(b) != want.Len(b) || !slices.EqualFunc(got.Seen(b), want.Seen(b), bytes.Equal) {
			t.Fatalf("seed %d, behind step %d: another box %d", seed, m.step-1, b)
		}
	}
}
