package script_test

import (
	"bytes"
	"math"
	"slices"
	"testing"

	"casket/api"
	"casket/client"
	"casket/cluster"
	"casket/dot"
	"casket/msg"
	"casket/script"
	"casket/sibling"
	"casket/vault"
)

var (
	secret  = [32]byte{2, 9}
	noNames = [][]byte{nil, {}, make([]byte, 65), make([]byte, 1000)}
	name    = []byte("n")
	other   = []byte("o")
)

const front = 3 // the usual system's box of who asks

func at(client, number int) api.Dot { return api.Dot{Client: client, Number: number} }

// past: of some dots.
func past(dots ...api.Dot) dot.Context {
	var c dot.Context
	for _, d := range dots {
		c, _ = dot.Add(c, d)
	}
	return c
}

// usual: three replicas that each have all, two of which must answer.
func usual() script.Config {
	c := cluster.Config{Replicas: 3, Points: 3, N: 3, R: 2, W: 2, Wait: 5, Sectors: 600}
	return script.Config{Cluster: c, Clients: 3, Ideal: true, Seed: secret}
}

func made(t *testing.T, c script.Config) *script.System {
	t.Helper()
	s, e := script.New(c)
	if e != api.OK || s == nil {
		t.Fatalf("New: error %d", e)
	}
	return s
}

// both: a system of each kind of vault.
func both(t *testing.T) map[string]*script.System {
	t.Helper()
	real := usual()
	real.Ideal = false
	return map[string]*script.System{"ideal": made(t, usual()), "real": made(t, real)}
}

func put(client int, name []byte, value string, handle int) script.Step {
	return script.Step{Kind: script.Put, Client: client, Name: name, Value: []byte(value), Handle: handle}
}

func get(client int, name []byte) script.Step {
	return script.Step{Kind: script.Get, Client: client, Name: name}
}

func settle() script.Step { return script.Step{Kind: script.Settle} }

// does: steps, none of which is refused.
func does(t *testing.T, s *script.System, l ...script.Step) {
	t.Helper()
	for i, x := range l {
		if e := s.Do(x); e != api.OK {
			t.Fatalf("step %d (%+v): error %d", i, x, e)
		}
	}
}

// refuses: a step, with this error; no operation has begun.
func refuses(t *testing.T, what string, want api.Errno, s *script.System, x script.Step) {
	t.Helper()
	was := s.Results()
	if e := s.Do(x); e != want {
		t.Errorf("%s: error %d, want %d", what, e, want)
	}
	if is := s.Results(); !slices.EqualFunc(is, was, sameResult) {
		t.Errorf("%s: the results are %+v, want %+v", what, is, was)
	}
}

func sameValue(a, b client.Value) bool {
	return a.Dot == b.Dot && a.Epoch == b.Epoch && dot.Same(a.Past, b.Past) && a.Deleted == b.Deleted && bytes.Equal(a.Bytes, b.Bytes)
}

func sameResult(a, b script.Result) bool {
	return a.Step == b.Step && a.Client == b.Client && bytes.Equal(a.Name, b.Name) && a.Put == b.Put && a.Done == b.Done && a.Err == b.Err &&
		slices.EqualFunc(a.Values, b.Values, sameValue) && a.Passed == b.Passed && a.Handle == b.Handle
}

// results: just these.
func results(t *testing.T, what string, s *script.System, want ...script.Result) {
	t.Helper()
	got := s.Results()
	if len(got) != len(want) {
		t.Fatalf("%s: %d results, want %d: %+v", what, len(got), len(want), got)
	}
	for i := range want {
		if !sameResult(got[i], want[i]) {
			t.Errorf("%s: result %d: %+v, want %+v", what, i, got[i], want[i])
		}
	}
}

func isContext(t *testing.T, what string, s *script.System, handle int, want dot.Context) {
	t.Helper()
	if got := s.Context(handle); !dot.Same(got, want) {
		t.Errorf("%s: handle %d is %v, want %v", what, handle, got, want)
	}
}

// deliver: all messages of a box, as long as there are some.
func deliver(t *testing.T, s *script.System, box int) {
	t.Helper()
	for s.Cluster().Net().Len(box) > 0 {
		does(t, s, script.Step{Kind: script.Deliver, Box: box})
	}
}

// P29.1: the chapter's example.
func TestExample(t *testing.T) {
	for kind, s := range both(t) {
		does(t, s, put(1, name, "x", 0), settle(), get(1, name), settle())
		results(t, kind, s,
			script.Result{Step: 0, Client: 1, Name: name, Put: true, Done: true},
			script.Result{Step: 2, Client: 1, Name: name, Done: true, Handle: 1, Values: []client.Value{{Dot: at(1, 1), Epoch: 1, Bytes: []byte("x")}}})
		isContext(t, kind, s, 1, past(at(1, 1)))
	}
}

// P29.1: a config is a cluster's, and 1 to 16 clients.
func TestConfigs(t *testing.T) {
	for i, x := range []struct {
		change func(c *script.Config)
		ok     bool
	}{
		{func(c *script.Config) {}, true},
		{func(c *script.Config) { c.Clients = 1 }, true},
		{func(c *script.Config) { c.Clients = 16 }, true},
		{func(c *script.Config) { c.Clients = 0 }, false},
		{func(c *script.Config) { c.Clients = -1 }, false},
		{func(c *script.Config) { c.Clients = 17 }, false},
		{func(c *script.Config) { c.Clients = math.MaxInt }, false},
		{func(c *script.Config) { c.Clients = math.MinInt }, false},
		{func(c *script.Config) { c.Clients = 1<<32 + 1 }, false},
		{func(c *script.Config) { c.Ideal, c.Seed = false, [32]byte{} }, true},
		{func(c *script.Config) { c.Cluster.Replicas = 0 }, false},
		{func(c *script.Config) { c.Cluster.Replicas = 9 }, false},
		{func(c *script.Config) { c.Cluster.N = 4 }, false},
		{func(c *script.Config) { c.Cluster.Sectors = 3 }, false},
		{func(c *script.Config) { c.Cluster.Wait = 0 }, false},
		{func(c *script.Config) { c.Cluster.R = 4 }, false},
		{func(c *script.Config) { c.Cluster = cluster.Config{} }, false},
		{func(c *script.Config) { *c = script.Config{} }, false},
	} {
		c := usual()
		x.change(&c)
		e := script.Check(c)
		s, err := script.New(c)
		switch {
		case x.ok && (e != api.OK || err != api.OK || s == nil):
			t.Errorf("%d: errors %d, %d", i, e, err)
		case !x.ok && (e != api.ErrArg || err != api.ErrArg || s != nil):
			t.Errorf("%d: errors %d, %d", i, e, err)
		}
	}
}

// P29.1: a new system: its clients have their numbers, and one vault of the seed; nothing has happened.
func TestNew(t *testing.T) {
	for _, ideal := range []bool{true, false} {
		c := usual()
		c.Ideal, c.Clients = ideal, 16
		s, v := made(t, c), vault.Real(secret)
		if ideal {
			v = vault.Ideal(secret)
		}
		results(t, "new", s)
		if s.Cluster() == nil || s.Cluster().Replica(2) == nil || s.Cluster().Replica(3) != nil || s.Cluster() != s.Cluster() {
			t.Error("there are other replicas")
		}
		for i := 1; i <= 16; i++ {
			x := s.Client(i)
			if x == nil || x != s.Client(i) || x.Epoch() != 1 || x.Sealed() != 0 {
				t.Fatalf("client %d isn't new", i)
			}
			n := []byte{byte(i % 5), 1}
			want, _ := v.Blind(n)
			if key, e := x.Key(n); key != want || e != api.OK {
				t.Errorf("client %d: key %x, error %d, want %x", i, key, e, want)
			}
			if _, one, e := x.Write(n, nil, false, dot.Context{}); e != api.OK || one.Dot != at(i, 1) {
				t.Errorf("client %d writes as %v, error %d", i, one.Dot, e)
			}
		}
		for _, id := range []int{0, -1, 17, math.MaxInt, math.MinInt, 1<<32 + 1} {
			if s.Client(id) != nil {
				t.Errorf("there is a client %d", id)
			}
		}
		for _, h := range []int{0, 1, -1, math.MaxInt, math.MinInt} {
			isContext(t, "new", s, h, dot.Context{})
		}
	}
	c := usual()
	c.Clients = 2
	if s := made(t, c); s.Client(2) == nil || s.Client(3) != nil {
		t.Error("there are other clients")
	}
}

// P29.1, P1: a nil system, and one that New didn't make.
func TestNone(t *testing.T) {
	for _, s := range []*script.System{nil, {}} {
		for kind := -1; kind < 20; kind++ {
			if e := s.Do(script.Step{Kind: kind, Client: 1, Name: name, Stay: []bool{true}}); e != api.ErrArg {
				t.Errorf("kind %d: error %d", kind, e)
			}
		}
		if s.Results() != nil || s.Cluster() != nil || s.Client(0) != nil || s.Client(1) != nil {
			t.Error("there is something")
		}
		isContext(t, "none", s, 0, dot.Context{})
		isContext(t, "none", s, 1, dot.Context{})
	}
}

// P29.1: what isn't a kind of step.
func TestKinds(t *testing.T) {
	s := made(t, usual())
	does(t, s, put(1, name, "x", 0), settle())
	for _, kind := range []int{0, -1, 18, 19, 255, 257, math.MaxInt, math.MinInt, 1<<32 + 1} {
		refuses(t, "kind", api.ErrArg, s, script.Step{Kind: kind, Client: 1, Name: name})
	}
}

// P29.1: a Put, a Delete: of a client, with the context of a handle.
func TestPut(t *testing.T) {
	for kind, s := range both(t) {
		does(t, s, put(2, name, "x", 0), put(2, name, "y", 0), settle(), get(1, name))
		results(t, kind+", under way", s,
			script.Result{Step: 0, Client: 2, Name: name, Put: true, Done: true},
			script.Result{Step: 1, Client: 2, Name: name, Put: true, Done: true},
			script.Result{Step: 3, Client: 1, Name: name})
		does(t, s, settle(), script.Step{Kind: script.Delete, Client: 3, Name: name, Value: make([]byte, 5000), Handle: 1}, put(1, name, "", 2), settle(), get(2, name), settle())
		r := s.Results()
		if len(r) != 6 {
			t.Fatalf("%s: %d results", kind, len(r))
		}
		x := client.Value{Dot: at(2, 1), Epoch: 1, Bytes: []byte("x")}
		y := client.Value{Dot: at(2, 2), Epoch: 1, Bytes: []byte("y")}
		empty := client.Value{Dot: at(1, 1), Epoch: 1}
		gone := client.Value{Dot: at(3, 1), Epoch: 1, Past: past(x.Dot, y.Dot), Deleted: true}
		for i, want := range []script.Result{
			2: {Step: 3, Client: 1, Name: name, Done: true, Handle: 1, Values: []client.Value{x, y}},
			3: {Step: 5, Client: 3, Name: name, Put: true, Done: true},
			4: {Step: 6, Client: 1, Name: name, Put: true, Done: true},
			5: {Step: 8, Client: 2, Name: name, Done: true, Handle: 2, Values: []client.Value{empty, gone}},
		} {
			if i >= 2 && !sameResult(r[i], want) {
				t.Errorf("%s %d: %+v, want %+v", kind, i, r[i], want)
			}
		}
		isContext(t, kind, s, 1, past(x.Dot, y.Dot))
		isContext(t, kind, s, 2, past(x.Dot, y.Dot, empty.Dot, gone.Dot))
	}
}

// P29.1: what a Put sees by a handle that there is, and by others: nothing.
func TestHandles(t *testing.T) {
	s := made(t, usual())
	does(t, s, put(1, name, "x", 0), settle(), get(1, name), get(2, other), settle())
	for i, h := range []int{0, 1, 2, 3, -1, math.MaxInt, math.MinInt} {
		does(t, s, put(2, name, "y", h))
		r := s.Results()
		o, e := s.Cluster().Op(6 + 2*(i+1))
		want := dot.Context{}
		if h == 1 {
			want = past(at(1, 1))
		}
		if e != api.OK || len(o.Set) != 1 || o.Set[0].Dot != at(2, i+1) || !dot.Same(o.Set[0].Past, want) || len(r) != 4+i {
			t.Fatalf("handle %d: error %d, %+v, want the past %v", h, e, o, want)
		}
	}
}

// P29.1: what a client refuses to write, or there is no client for: no result; the steps are counted all the same.
func TestPutErrors(t *testing.T) {
	for kind, s := range both(t) {
		does(t, s, put(1, name, "x", 0), settle(), get(2, name), settle(), put(1, name, "y", 1), settle())
		for _, k := range []int{script.Put, script.Delete, script.Get, script.Rotate, script.Sweep} {
			for _, id := range []int{0, 4, -1, math.MaxInt, math.MinInt, 1<<32 + 1} {
				refuses(t, kind+", no client", api.ErrArg, s, script.Step{Kind: k, Client: id, Name: name, Value: make([]byte, 5000)})
			}
			for _, n := range noNames {
				if k != script.Rotate {
					refuses(t, kind+", no name", api.ErrArg, s, script.Step{Kind: k, Client: 1, Name: n})
				}
			}
		}
		refuses(t, kind+", too big", api.ErrBig, s, put(1, name, string(make([]byte, 4000)), 0))
		if s.Client(3).Sealed() != 0 || s.Client(1).Sealed() != 2 {
			t.Error("something was sealed")
		}
		steps := 6 + 6*5 + 4*4 + 1
		does(t, s, put(1, name, "z", 1), get(3, name))
		r := s.Results()
		if n := len(r); n != 5 || r[3].Step != steps || r[4].Step != steps+1 {
			t.Errorf("%s: %d results, of steps %d, %d, want %d", kind, n, r[3].Step, r[4].Step, steps)
		}
		if o, _ := s.Cluster().Op(8); len(o.Set) != 1 || o.Set[0].Dot != at(1, 3) {
			t.Errorf("%s: a number was used up: %+v", kind, o)
		}
	}
}

// P29.1: a client that has seen its own write that it doesn't know of yet: another one's, of its number.
func TestPutErrContext(t *testing.T) {
	s := made(t, usual())
	does(t, s, put(1, name, "x", 0), settle(), get(1, name), settle())
	refuses(t, "of another name", api.ErrContext, s, put(1, other, "x", 1)) // its first write of that name has the dot 1, 1
	refuses(t, "of another name", api.ErrContext, s, script.Step{Kind: script.Delete, Client: 1, Name: other, Handle: 1})
	does(t, s, put(2, other, "x", 1), put(1, other, "y", 0), settle(), get(3, other), settle())
	r := s.Results()
	want := []client.Value{{Dot: at(2, 1), Epoch: 1, Past: past(at(1, 1)), Bytes: []byte("x")}}
	if got := r[len(r)-1]; !slices.EqualFunc(got.Values, want, sameValue) {
		t.Errorf("%+v, want %+v", got, want)
	}
}

// P29.1: what a client writes beside the script counts as its own.
func TestWrittenBeside(t *testing.T) {
	for kind, s := range both(t) {
		for range 2 { // the cluster is told nothing of these
			if _, _, e := s.Client(1).Write(name, nil, false, dot.Context{}); e != api.OK {
				t.Fatal(e)
			}
		}
		does(t, s, put(1, name, "x", 0), settle(), get(2, name), settle())
		want := []client.Value{{Dot: at(1, 3), Epoch: 1, Bytes: []byte("x")}}
		r := s.Results()
		if len(r) != 2 || !slices.EqualFunc(r[1].Values, want, sameValue) {
			t.Errorf("%s: %+v", kind, r)
		}
		isContext(t, kind, s, 1, past(at(1, 3)))
	}
}

// P29.1: a Rotate is the client's own.
func TestRotate(t *testing.T) {
	s := made(t, usual())
	rotate := script.Step{Kind: script.Rotate, Client: 2}
	does(t, s, rotate, put(2, name, "x", 0), rotate, put(2, name, "y", 0), put(1, name, "z", 0), settle(), get(3, name), settle())
	if a, b, c := s.Client(1).Epoch(), s.Client(2).Epoch(), s.Client(3).Epoch(); a != 1 || b != 3 || c != 1 {
		t.Errorf("epochs %d, %d, %d", a, b, c)
	}
	want := []client.Value{
		{Dot: at(1, 1), Epoch: 1, Bytes: []byte("z")}, {Dot: at(2, 1), Epoch: 2, Bytes: []byte("x")}, {Dot: at(2, 2), Epoch: 3, Bytes: []byte("y")},
	}
	r := s.Results()
	if len(r) != 4 || !slices.EqualFunc(r[3].Values, want, sameValue) {
		t.Errorf("%+v", r)
	}
	for s.Client(2).Epoch() < api.MaxEpoch {
		does(t, s, rotate)
	}
	refuses(t, "the last epoch", api.ErrEpoch, s, rotate)
	if s.Client(2).Epoch() != api.MaxEpoch {
		t.Errorf("epoch %d", s.Client(2).Epoch())
	}
}

// P29.1: what is done is noticed behind the step that does it, in the results' order, not in that in which it was done.
func TestNoticed(t *testing.T) {
	c := usual()
	c.Cluster.R, c.Cluster.W = 1, 1
	s := made(t, c)
	does(t, s, put(1, name, "x", 0), settle(), get(1, name), get(2, name), get(3, other))
	box := s.Cluster().Net()
	for _, k := range []int{2, 1, 0} {
		does(t, s, script.Step{Kind: script.Deliver, Box: 0, K: k})
	}
	if box.Len(front) != 3 {
		t.Fatalf("%d answers", box.Len(front))
	}
	does(t, s, script.Step{Kind: script.Deliver, Box: front}) // the third Get's
	r := s.Results()
	if !r[3].Done || r[3].Handle != 1 || r[2].Done || r[1].Done || len(r[3].Values) != 0 {
		t.Errorf("%+v", r)
	}
	does(t, s, settle()) // the second one's, then the first one's: noticed behind one step
	r = s.Results()
	if !r[1].Done || r[1].Handle != 2 || !r[2].Done || r[2].Handle != 3 || r[3].Handle != 1 {
		t.Errorf("%+v", r)
	}
	isContext(t, "of nothing", s, 1, dot.Context{})
	isContext(t, "the first Get", s, 2, past(at(1, 1)))
	isContext(t, "the second Get", s, 3, past(at(1, 1)))
	isContext(t, "no other one", s, 4, dot.Context{})
}

// P29.1: each step is looked behind: also one that is refused, or has to do with something else.
func TestNoticedBehindAny(t *testing.T) {
	for i, x := range []script.Step{{Kind: 99}, {Kind: script.Tick}, {Kind: script.Rotate, Client: 1}, get(1, other), {Kind: script.Up, Box: 9}} {
		s := made(t, usual())
		does(t, s, put(1, name, "x", 0))
		s.Cluster().Settle() // done by nobody's step
		if s.Results()[0].Done {
			t.Errorf("%d: noticed by nobody", i)
		}
		s.Do(x)
		if !s.Results()[0].Done {
			t.Errorf("%d: it isn't noticed", i)
		}
	}
}

// P29.1: what too few answer is done with ErrTimeout: no values, no handle.
func TestTimeout(t *testing.T) {
	s := made(t, usual())
	down := func(r int) script.Step { return script.Step{Kind: script.Down, Box: r} }
	does(t, s, put(1, name, "x", 0), settle(), get(2, name), put(1, name, "y", 0))
	for range 5 {
		does(t, s, script.Step{Kind: script.Tick})
		if s.Results()[1].Done {
			t.Error("done too soon")
		}
	}
	does(t, s, script.Step{Kind: script.Tick}, settle())
	results(t, "timeout", s,
		script.Result{Step: 0, Client: 1, Name: name, Put: true, Done: true},
		script.Result{Step: 2, Client: 2, Name: name, Done: true, Err: api.ErrTimeout},
		script.Result{Step: 3, Client: 1, Name: name, Put: true, Done: true, Err: api.ErrTimeout})
	does(t, s, down(0), down(1), get(3, name), settle(), script.Step{Kind: script.Up, Box: 0}, get(3, name), settle())
	r := s.Results()
	if r[3].Done || !r[4].Done || r[4].Handle != 1 || len(r[4].Values) != 2 {
		t.Errorf("%+v", r[3:])
	}
}

// P29.1: the steps of the cluster: each is done just as told.
func TestClusterSteps(t *testing.T) {
	s := made(t, usual())
	box := s.Cluster().Net()
	waits := func(what string, want ...int) {
		t.Helper()
		for b, n := range want {
			if box.Len(b) != n {
				t.Errorf("%s: box %d has %d messages, want %d", what, b, box.Len(b), n)
			}
		}
	}
	does(t, s, put(1, name, "x", 0))
	waits("put", 1, 1, 1, 0)
	does(t, s, script.Step{Kind: script.Lose, Box: 1})
	waits("lose", 1, 0, 1, 0)
	does(t, s, script.Step{Kind: script.Twice, Box: 2})
	waits("twice", 1, 0, 2, 0)
	does(t, s, script.Step{Kind: script.Deliver, Box: 2, K: 1})
	waits("deliver", 1, 0, 1, 1)
	does(t, s, script.Step{Kind: script.Compare, Box: 2, K: 1})
	waits("compare", 1, 1, 1, 1)
	does(t, s, settle())
	waits("settle", 0, 0, 0, 0)
	key, _ := s.Client(1).Key(name)
	if len(s.Cluster().Replica(1).Shelf().Get(key)) != 1 {
		t.Error("replica 1 has compared nothing")
	}
	does(t, s, script.Step{Kind: script.Fuse, Box: 0, K: 1}, put(1, name, "y", 0))
	refuses(t, "the fuse", api.ErrDown, s, script.Step{Kind: script.Deliver, Box: 0})
	waits("fuse", 0, 1, 1, 0)
	does(t, s, get(1, name))
	waits("get", 1, 2, 2, 0)
	does(t, s, script.Step{Kind: script.Crash, Box: 0})
	waits("crash", 0, 2, 2, 0)
	does(t, s, settle(), script.Step{Kind: script.Fuse, Box: -1, K: 1}, script.Step{Kind: script.Up, Box: 3}, script.Step{Kind: script.Down, Box: -1})
}

// P29.1: Hand tells a hint that a stand-in has.
func TestHand(t *testing.T) {
	c := usual()
	c.Cluster.Replicas = 4
	s := made(t, c)
	key, _ := s.Client(1).Key(name)
	for r := range 4 {
		does(t, s, script.Step{Kind: script.Down, Box: r}, put(1, name, "x", 0), settle(), script.Step{Kind: script.Up, Box: r})
	}
	handed := 0
	for a := range 4 {
		for b := range 4 {
			if a != b && len(s.Cluster().Replica(a).Shelf().Hints(b)) > 0 {
				does(t, s, script.Step{Kind: script.Hand, Box: a, K: b}, settle())
				handed++
				if len(s.Cluster().Replica(b).Shelf().Get(key)) == 0 || len(s.Cluster().Replica(a).Shelf().Hints(b)) > 0 {
					t.Errorf("%d hasn't what %d had for it", b, a)
				}
			}
			if a != b {
				refuses(t, "no hint", api.ErrMiss, s, script.Step{Kind: script.Hand, Box: a, K: b})
			}
		}
	}
	if handed == 0 {
		t.Error("nobody had a hint")
	}
}

// P29.1: what the cluster refuses.
func TestClusterErrors(t *testing.T) {
	s := made(t, usual())
	for _, kind := range []int{script.Deliver, script.Lose, script.Twice, script.Forge} {
		for _, b := range []int{-1, 4, math.MaxInt, math.MinInt} {
			refuses(t, "no box", api.ErrArg, s, script.Step{Kind: kind, Box: b})
		}
		for _, k := range []int{0, -1, 1, math.MaxInt} {
			refuses(t, "no message", api.ErrMiss, s, script.Step{Kind: kind, Box: 3, K: k})
		}
	}
	for _, r := range []int{-1, 3, math.MaxInt, math.MinInt} {
		refuses(t, "Crash", api.ErrArg, s, script.Step{Kind: script.Crash, Box: r})
		for _, kind := range []int{script.Compare, script.Hand} {
			refuses(t, "no replica", api.ErrArg, s, script.Step{Kind: kind, Box: r, K: 0})
			refuses(t, "no replica", api.ErrArg, s, script.Step{Kind: kind, Box: 0, K: r})
		}
	}
	refuses(t, "itself", api.ErrArg, s, script.Step{Kind: script.Compare, Box: 1, K: 1})
	does(t, s, put(1, name, "x", 0))
	for s.Cluster().Net().Len(0) < api.MaxInbox {
		does(t, s, script.Step{Kind: script.Twice, Box: 0})
	}
	refuses(t, "Twice", api.ErrInbox, s, script.Step{Kind: script.Twice, Box: 0})
	refuses(t, "Compare", api.ErrInbox, s, script.Step{Kind: script.Compare, Box: 1, K: 0})
	does(t, s, script.Step{Kind: script.Forge, Box: 0, K: 63, Raw: []byte{1}}) // there is room where it stood
	refuses(t, "forged", api.ErrDecode, s, script.Step{Kind: script.Deliver, Box: 0, K: 63})
}

// P29.1: which of the loose writes stay behind a crash is told by Stay.
func TestCrashStay(t *testing.T) {
	for _, stay := range []bool{true, false} {
		s := made(t, usual())
		key, _ := s.Client(1).Key(name)
		does(t, s, put(1, name, "x", 0))
		kept := 0
		for n := 1; n < 30 && kept == 0; n++ {
			s = made(t, usual())
			does(t, s, put(1, name, "x", 0), script.Step{Kind: script.Fuse, Box: 0, K: n})
			s.Do(script.Step{Kind: script.Deliver, Box: 0})
			does(t, s, script.Step{Kind: script.Crash, Box: 0, Stay: slices.Repeat([]bool{stay}, 200)})
			if len(s.Cluster().Replica(0).Shelf().Get(key)) == 1 && s.Cluster().Net().Len(front) == 0 {
				kept = n // written, and not synced: nobody was told of it
			}
		}
		if stay != (kept > 0) {
			t.Errorf("stay: %t, but kept behind a fuse of %d", stay, kept)
		}
	}
}

// P29.1: Forge: the message that stood there is lost, the bytes come behind the others.
func TestForge(t *testing.T) {
	s := made(t, usual())
	does(t, s, put(1, name, "x", 0), put(1, name, "y", 0), put(1, name, "z", 0))
	raw, e := msg.Write(msg.Msg{Kind: msg.Fetch, From: front, Ask: 6})
	if e != api.OK {
		t.Fatal(e)
	}
	does(t, s, script.Step{Kind: script.Forge, Box: 1, K: 1, Raw: raw})
	box := s.Cluster().Net()
	if box.Len(1) != 3 || box.Len(0) != 3 {
		t.Errorf("%d, %d messages", box.Len(1), box.Len(0))
	}
	seen := box.Seen(1)
	if m, e := msg.Read(seen[0]); len(seen) != 1 || e != api.OK || m.Ask != 4 {
		t.Errorf("lost: %+v, error %d", m, e)
	}
	if b, e := box.Take(1, 2); !bytes.Equal(b, raw) || e != api.OK {
		t.Errorf("forged: %x, error %d", b, e)
	}
	does(t, s, script.Step{Kind: script.Forge, Box: 1, K: 0}, settle())
	if seen := box.Seen(1); len(seen) != 5 {
		t.Errorf("seen: %x", seen)
	}
}

// P29.1: a forged answer is told by nobody: passed over, and counted.
func TestForgedAnswer(t *testing.T) {
	for kind, s := range both(t) {
		does(t, s, put(1, name, "x", 0), put(1, other, "y", 0), settle(), get(2, name))
		key, _ := s.Client(1).Key(name)
		o, _ := s.Cluster().Op(4)
		foreign := o.Set[0] // what was sealed for another name
		foreign.Dot.Number = 1
		set, _ := sibling.Write([]sibling.Sibling{foreign, {Dot: at(7, 7)}})
		raw, e := msg.Write(msg.Msg{Kind: msg.Fetched, From: 1, Ask: 6, Row: msg.Row{Key: key, Set: set}})
		if e != api.OK {
			t.Fatal(e)
		}
		deliver(t, s, 1)
		does(t, s, script.Step{Kind: script.Forge, Box: front, K: 0, Raw: raw}, script.Step{Kind: script.Deliver, Box: front})
		deliver(t, s, 0)
		does(t, s, settle())
		r := s.Results()[2]
		want := script.Result{Step: 3, Client: 2, Name: name, Done: true, Passed: 2, Handle: 1}
		if !sameResult(r, want) {
			t.Errorf("%s: %+v, want %+v", kind, r, want)
		}
		isContext(t, kind, s, 1, dot.Context{})
	}
}
