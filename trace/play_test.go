package trace_test

import (
	"bytes"
	"crypto/sha256"
	"math/rand/v2"
	"slices"
	"testing"

	"casket/api"
	"casket/cluster"
	"casket/dot"
	"casket/msg"
	"casket/script"
	"casket/sibling"
	"casket/trace"
)

func usual() script.Config {
	c := cluster.Config{Replicas: 3, Points: 3, N: 3, R: 2, W: 2, Wait: 5, Sectors: 300}
	return script.Config{Cluster: c, Clients: 3, Ideal: true, Seed: [32]byte{3, 4}}
}

// model: a script, played as the chapter tells, and its system.
func model(t *testing.T, c script.Config, l []script.Step) ([]byte, *script.System) {
	t.Helper()
	s, e := script.New(c)
	if e != api.OK {
		t.Fatalf("New: error %d", e)
	}
	b := num(nil, len(l))
	for _, x := range l {
		b = append(b, byte(s.Do(x)))
	}
	b = num(b, len(s.Results()))
	for _, r := range s.Results() {
		b = append(num(b, r.Step), byte(r.Client))
		flags := byte(0)
		if r.Put {
			flags = 1
		}
		if r.Done {
			flags += 2
		}
		b = num(num(append(b, flags, byte(r.Err)), r.Passed), r.Handle)
		b = num(b, len(r.Values))
		for _, v := range r.Values {
			b = num(num(num(b, v.Dot.Client), v.Dot.Number), v.Epoch)
			if v.Deleted {
				b = append(b, 1)
			} else {
				b = append(b, 0)
			}
			past, _ := dot.Write(v.Past)
			b = counted(counted(b, past), v.Bytes)
		}
	}
	for r := range c.Cluster.Replicas {
		sum := sha256.Sum256(s.Cluster().Image(r))
		b = append(b, sum[:]...)
	}
	return b, s
}

// plays: as the model; twice the same.
func plays(t *testing.T, what string, c script.Config, l []script.Step) ([]byte, *script.System) {
	t.Helper()
	want, s := model(t, c, l)
	for range 2 {
		if got, e := trace.Play(c, l); e != api.OK || !bytes.Equal(got, want) {
			t.Fatalf("%s: error %d, %x, want %x", what, e, got, want)
		}
	}
	return want, s
}

// P34.1: a story, written out.
func TestPlay(t *testing.T) {
	n := []byte("n")
	l := []script.Step{
		{Kind: script.Put, Client: 2, Name: n, Value: []byte("x")}, {Kind: script.Settle},
		{Kind: script.Get, Client: 1, Name: n}, {Kind: script.Settle},
		{Kind: script.Delete, Client: 3, Name: n, Handle: 1}, {Kind: script.Put, Client: 4}, {Kind: script.Settle},
		{Kind: script.Rotate, Client: 1}, {Kind: script.Get, Client: 1, Name: n}, {Kind: script.Settle}, {Kind: script.Get, Client: 1, Name: n}, {Kind: 99},
	}
	got, s := plays(t, "story", usual(), l)
	past := func(c dot.Context) []byte {
		b, _ := dot.Write(c)
		return counted(nil, b)
	}
	var images []byte
	for r := range 3 {
		sum := sha256.Sum256(s.Cluster().Image(r))
		images = append(images, sum[:]...)
	}
	want := slices.Concat(
		num(nil, 12), []byte{0, 0, 0, 0, 0, 1, 0, 0, 0, 0, 0, 1},
		num(nil, 5),
		num(nil, 0), []byte{2, 3, 0}, num(num(num(nil, 0), 0), 0),
		num(nil, 2), []byte{1, 2, 0}, num(num(num(nil, 0), 1), 1),
		num(num(num(nil, 2), 1), 1), []byte{0}, past(dot.Context{}), []byte{0, 0, 0, 1, 'x'},
		num(nil, 4), []byte{3, 3, 0}, num(num(num(nil, 0), 0), 0),
		num(nil, 8), []byte{1, 2, 0}, num(num(num(nil, 0), 2), 1),
		num(num(num(nil, 3), 1), 1), []byte{1}, past(dot.Context{Upto: [16]int{1: 1}}), []byte{0, 0, 0, 0},
		num(nil, 10), []byte{1, 0, 0}, num(num(num(nil, 0), 0), 0),
		images)
	if !bytes.Equal(got, want) {
		t.Errorf("%x, want %x", got, want)
	}
}

// P34.1: of no steps: no results, and disks.
func TestPlayNothing(t *testing.T) {
	for replicas := 1; replicas <= 8; replicas++ {
		c := usual()
		c.Cluster.Replicas, c.Cluster.N, c.Cluster.R, c.Cluster.W = replicas, 1, 1, 1
		if got, _ := plays(t, "nothing", c, nil); len(got) != 16+32*replicas {
			t.Errorf("%d bytes", len(got))
		}
	}
}

// P34.1: ErrArg, then ErrBig; 1000 steps are played.
func TestPlayErrors(t *testing.T) {
	many := slices.Repeat([]script.Step{{Kind: script.Tick}}, 1001)
	plays(t, "many", usual(), many[:1000])
	refuses := func(what string, want api.Errno, c script.Config, l []script.Step) {
		t.Helper()
		if b, e := trace.Play(c, l); e != want || len(b) != 0 {
			t.Errorf("%s: error %d, %x", what, e, b)
		}
	}
	refuses("too many", api.ErrBig, usual(), many)
	for _, change := range []func(c *script.Config){
		func(c *script.Config) { c.Clients = 0 },
		func(c *script.Config) { c.Clients = 17 },
		func(c *script.Config) { c.Cluster.Replicas = 9 },
		func(c *script.Config) { c.Cluster.R = 0 },
		func(c *script.Config) { *c = script.Config{} },
	} {
		c := usual()
		change(&c)
		refuses("no config", api.ErrArg, c, nil)
		refuses("no config", api.ErrArg, c, many[:1])
		refuses("no config", api.ErrArg, c, many)
	}
}

// P34.1: what a script's bytes have no room for is played, too: Do tells what it is.
func TestPlayAnyStep(t *testing.T) {
	plays(t, "any", usual(), []script.Step{
		{Kind: -1}, {Kind: 256}, {Kind: script.Put, Client: -1}, {Kind: script.Put, Client: 1, Name: make([]byte, 300)}, {Kind: script.Put, Client: 1, Name: []byte("n"), Value: make([]byte, 1<<17)},
		{Kind: script.Deliver, Box: -1}, {Kind: script.Crash, Box: 1, Stay: make([]bool, 2000)}, {Kind: script.Put, Client: 1, Name: []byte("n"), Handle: -1}, {Kind: script.Forge, Box: 0, Raw: make([]byte, 1<<17)}, {Kind: script.Settle},
	})
}

// drawnLife: steps that come to something, errors and forging among them.
func drawnLife(rng *rand.Rand, c script.Config) []script.Step {
	s, _ := script.New(c)
	var l []script.Step
	names := []string{"a", "b", "a", "b", "a", "b", "ab", "ab", ""}
	kinds := []int{1, 1, 1, 1, 1, 1, 2, 3, 3, 3, 3, 3, 3, 4, 5, 5, 7, 8, 8, 9, 9, 10, 10, 10, 11, 12, 13, 13, 14, 15, 16, 16, 16, 16, 16, 17, 17, 17, 17, 17, 18}
	for range 120 {
		x := script.Step{Kind: kinds[rng.IntN(len(kinds))], Client: 1 + rng.IntN(c.Clients+rng.IntN(2)), Name: []byte(names[rng.IntN(len(names))]), Value: make([]byte, rng.IntN(80)), Handle: rng.IntN(9)}
		x.Value = append(x.Value, byte(rng.IntN(256)))
		x.Box = rng.IntN(c.Cluster.Replicas + 1)
		if rng.IntN(3) == 0 {
			x.Kind = script.Deliver
		}
		for range 10 {
			if n := s.Cluster().Net().Len(x.Box); n > 0 {
				x.K = rng.IntN(n)
				break
			}
			x.Box = rng.IntN(c.Cluster.Replicas + 1)
		}
		switch x.Kind {
		case script.Compare, script.Hand:
			x.K = rng.IntN(c.Cluster.Replicas)
		case script.Fuse:
			x.K = 1 + rng.IntN(90)
		case script.Crash:
			x.Stay = []bool{rng.IntN(2) == 0, rng.IntN(2) == 0}
		case script.Forge:
			x.Raw = forged(rng, s, x.Box == c.Cluster.Replicas)
		}
		s.Do(x)
		l = append(l, x)
	}
	return l
}

// forged: of some operation's siblings, or something like them.
func forged(rng *rand.Rand, s *script.System, toFront bool) []byte {
	l := s.Results()
	if len(l) == 0 {
		return []byte("none")
	}
	o, _ := s.Cluster().Op(2 * (1 + rng.IntN(len(l))))
	m := msg.Msg{Kind: msg.Store, Ask: 2, Row: msg.Row{Key: o.Key}}
	if toFront {
		m.Kind = msg.Fetched
		for i, r := range l {
			if op, _ := s.Cluster().Op(2 * (i + 1)); !r.Put && !r.Done {
				m.Ask, m.Row.Key = 2*(i+1), op.Key
			}
		}
	}
	if len(o.Set) > 0 {
		o.Set[0].Dot.Number += rng.IntN(2)
	}
	m.Row.Set, _ = sibling.Write(o.Set)
	b, _ := msg.Write(m)
	return b
}

// P34.1, P34.2, P34.3: drawn lives, held against a system that is stepped as the chapter tells; also out of their bytes they tell the same.
func TestDrawnPlays(t *testing.T) {
	values, passed, errors := 0, 0, 0
	for seed := range uint64(80) {
		rng := rand.New(rand.NewPCG(343, seed))
		c := usual()
		c.Ideal, c.Clients = seed%2 == 0, 1+rng.IntN(4)
		c.Cluster.Replicas, c.Cluster.Sectors = 1+rng.IntN(4), 300+rng.IntN(900)
		c.Cluster.N = 1 + rng.IntN(c.Cluster.Replicas)
		c.Cluster.R, c.Cluster.W = 1+rng.IntN(c.Cluster.N), 1+rng.IntN(c.Cluster.N)
		l := drawnLife(rng, c)
		want, s := plays(t, "drawn", c, l)
		b, e := trace.Write(l)
		if e != api.OK {
			t.Fatalf("seed %d: error %d", seed, e)
		}
		back, e := trace.Read(b)
		if e != api.OK {
			t.Fatalf("seed %d: error %d", seed, e)
		}
		if got, e := trace.Play(c, back); e != api.OK || !bytes.Equal(got, want) {
			t.Fatalf("seed %d: out of its bytes: error %d, %x, want %x", seed, e, got, want)
		}
		for _, r := range s.Results() {
			values, passed = values+len(r.Values), passed+r.Passed
		}
		for _, e := range want[8 : 8+len(l)] {
			errors += min(1, int(e))
		}
	}
	if values < 200 || passed < 20 || errors < 500 {
		t.Errorf("only %d values, %d passed over, %d errors", values, passed, errors)
	}
}

// P34.4: what is played isn't kept or changed; the answer is new memory.
func TestPlayMemory(t *testing.T) {
	x := script.Step{Kind: script.Put, Client: 1, Name: []byte("name.")[:4], Value: []byte("value.")[:5], Stay: []bool{true, false, true}[:2], Raw: []byte("raw.")[:3]}
	l := []script.Step{x, {Kind: script.Settle}, {Kind: script.Get, Client: 1, Name: x.Name}, {Kind: script.Settle}, {Kind: 9}}[:4]
	got, e := trace.Play(usual(), l)
	if e != api.OK || string(x.Name[:5]) != "name." || string(x.Value[:6]) != "value." || !slices.Equal(x.Stay[:3], []bool{true, false, true}) || string(x.Raw[:4]) != "raw." || l[:5][4].Kind != 9 {
		t.Errorf("error %d; %+v was changed", e, l[:5])
	}
	want := slices.Clone(got)
	clear(got[:cap(got)])
	if again, e := trace.Play(usual(), l); e != api.OK || !bytes.Equal(again, want) {
		t.Errorf("error %d, %x, want %x", e, again, want)
	}
}
