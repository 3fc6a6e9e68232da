package cluster_test

import (
	"bytes"
	"math"
	"slices"
	"testing"

	"casket/api"
	"casket/cluster"
	"casket/dot"
	"casket/msg"
	"casket/net"
	"casket/ring"
	"casket/sibling"
)

func at(client, number int) api.Dot { return api.Dot{Client: client, Number: number} }

// one: a write of some body, that has seen these dots.
func one(d api.Dot, body string, seen ...api.Dot) sibling.Sibling {
	var c dot.Context
	for _, s := range seen {
		c, _ = dot.Add(c, s)
	}
	return sibling.Sibling{Dot: d, Past: c, Body: []byte(body)}
}

func setOf(l ...sibling.Sibling) []sibling.Sibling { return l }

// many: siblings of one client that have seen nothing.
func many(client, n int) []sibling.Sibling {
	var out []sibling.Sibling
	for i := range n {
		out = append(out, one(at(client, i+1), "m"))
	}
	return out
}

func keyOf(first, last byte) api.Blind {
	var k api.Blind
	k[0], k[31] = first, last
	return k
}

// written: a set's bytes.
func written(l []sibling.Sibling) []byte {
	b, _ := sibling.Write(l)
	return b
}

func row(key api.Blind, l ...sibling.Sibling) msg.Row { return msg.Row{Key: key, Set: written(l)} }

// usual: four replicas, three of which have each key.
func usual() cluster.Config {
	return cluster.Config{Replicas: 4, Points: 3, N: 3, R: 2, W: 2, Wait: 5, Sectors: 200}
}

const usualFront = 4 // the front's box and number in a usual one

// otherAsk: the n-th ask, from 1 on, of what is no operation.
func otherAsk(n int) int { return 1<<60 + 2*n }

func made(t *testing.T, config cluster.Config) *cluster.Cluster {
	t.Helper()
	c, e := cluster.New(config)
	if c == nil || e != api.OK {
		t.Fatalf("New(%+v): error %d, or none", config, e)
	}
	return c
}

// usualOne: a usual cluster, a key, and the key's replicas in their order, preferred ones first.
func usualOne(t *testing.T) (*cluster.Cluster, api.Blind, []int) {
	t.Helper()
	r, e := ring.New(usual().Replicas, usual().Points)
	if e != api.OK {
		t.Fatal(e)
	}
	key := keyOf(9, 1)
	return made(t, usual()), key, r.Walk(key)
}

// bytesOf: a message's bytes.
func bytesOf(t *testing.T, m msg.Msg) []byte {
	t.Helper()
	b, e := msg.Write(m)
	if e != api.OK {
		t.Fatalf("a message of kind %d can't be written", m.Kind)
	}
	return b
}

// peek: the messages of a box, which stay.
func peek(t *testing.T, c *cluster.Cluster, box int) [][]byte {
	t.Helper()
	var out [][]byte
	for c.Net().Len(box) > 0 {
		b, e := c.Net().Take(box, 0)
		if e != api.OK {
			t.Fatal(e)
		}
		out = append(out, b)
	}
	for _, b := range out {
		c.Net().Send(box, b)
	}
	return out
}

// waits: just these messages are in a box.
func waits(t *testing.T, what string, c *cluster.Cluster, box int, want ...msg.Msg) {
	t.Helper()
	got := peek(t, c, box)
	if len(got) != len(want) {
		t.Errorf("%s: %d messages are in box %d, want %d", what, len(got), box, len(want))
		return
	}
	for i, m := range want {
		if !bytes.Equal(got[i], bytesOf(t, m)) {
			is, _ := msg.Read(got[i])
			t.Errorf("%s: message %d of box %d is %+v, want %+v", what, i, box, is, m)
		}
	}
}

// empty: no message is in any box of a usual cluster.
func empty(t *testing.T, what string, c *cluster.Cluster) {
	t.Helper()
	for box := range usualFront + 1 {
		if n := c.Net().Len(box); n != 0 {
			t.Errorf("%s: %d messages are in box %d", what, n, box)
		}
	}
}

// fill: a box has no room any more.
func fill(t *testing.T, c *cluster.Cluster, box int) {
	t.Helper()
	for c.Net().Len(box) < 64 {
		if e := c.Net().Send(box, []byte("full")); e != api.OK {
			t.Fatal(e)
		}
	}
}

// puts, gets: an operation begins, with this ask.
func puts(t *testing.T, c *cluster.Cluster, key api.Blind, s sibling.Sibling, want int) {
	t.Helper()
	if ask, e := c.Put(key, s); ask != want || e != api.OK {
		t.Fatalf("Put: %d, error %d, want %d", ask, e, want)
	}
}

func gets(t *testing.T, c *cluster.Cluster, key api.Blind, want int) {
	t.Helper()
	if ask, e := c.Get(key); ask != want || e != api.OK {
		t.Fatalf("Get: %d, error %d, want %d", ask, e, want)
	}
}

// sameOp: field by field.
func sameOp(a, b cluster.Op) bool {
	return a.Put == b.Put && a.Key == b.Key && a.Done == b.Done && a.Err == b.Err && a.Hinted == b.Hinted &&
		slices.Equal(a.Acks, b.Acks) && sibling.Same(a.Set, b.Set)
}

// is: an operation is just this.
func is(t *testing.T, what string, c *cluster.Cluster, ask int, want cluster.Op) {
	t.Helper()
	if o, e := c.Op(ask); e != api.OK || !sameOp(o, want) {
		t.Errorf("%s: operation %d is %+v, error %d, want %+v", what, ask, o, e, want)
	}
}

// tells: a call's error.
func tells(t *testing.T, what string, got, want api.Errno) {
	t.Helper()
	if got != want {
		t.Errorf("%s: error %d, want %d", what, got, want)
	}
}

// has: a replica's siblings of a key.
func has(t *testing.T, what string, c *cluster.Cluster, r int, key api.Blind, want ...sibling.Sibling) {
	t.Helper()
	if got := c.Replica(r).Shelf().Get(key); !sibling.Same(got, want) {
		t.Errorf("%s: replica %d has %v, want %v", what, r, got, want)
	}
}

// holds: of which keys a replica has hints for another one.
func holds(t *testing.T, what string, c *cluster.Cluster, r, to int, want ...api.Blind) {
	t.Helper()
	var got []api.Blind
	for _, h := range c.Replica(r).Shelf().Hints(to) {
		got = append(got, h.Key)
	}
	if !slices.Equal(got, want) {
		t.Errorf("%s: replica %d holds %v for %d, want %v", what, r, got, to, want)
	}
}

// Example 1 of the chapter, and example 9 of the whole.
func TestExample(t *testing.T) {
	for _, replicas := range []int{3, 4, 8} {
		config := cluster.Config{Replicas: replicas, Points: 3, N: 3, R: 2, W: 2, Wait: 5, Sectors: 100}
		c, key, s := made(t, config), keyOf(7, 7), one(at(1, 1), "x")
		puts(t, c, key, s, 2)
		if n := c.Settle(); n != 6 {
			t.Errorf("Settle behind Put: %d messages, want 6", n)
		}
		o, e := c.Op(2)
		if e != api.OK || !o.Done || o.Err != api.OK || len(o.Acks) != 2 || o.Hinted || len(c.Net().Seen(replicas)) != 3 {
			t.Errorf("Put: %+v, error %d; %d answers came", o, e, len(c.Net().Seen(replicas)))
		}
		gets(t, c, key, 4)
		if n := c.Settle(); n != 6 {
			t.Errorf("Settle behind Get: %d messages, want 6", n)
		}
		o, e = c.Op(4)
		if e != api.OK || !o.Done || o.Err != api.OK || len(o.Acks) != 2 || !sibling.Same(o.Set, setOf(s)) {
			t.Errorf("Get: %+v, error %d", o, e)
		}
	}
}

// P26.1: Check and New, at the bounds of each field.
func TestConfigs(t *testing.T) {
	bounds := []struct {
		name  string
		field func(c *cluster.Config) *int
		base  cluster.Config
		most  int
	}{
		{"Replicas", func(c *cluster.Config) *int { return &c.Replicas }, cluster.Config{Points: 1, N: 1, R: 1, W: 1, Wait: 1, Sectors: 4}, 8},
		{"Points", func(c *cluster.Config) *int { return &c.Points }, cluster.Config{Replicas: 3, N: 2, R: 1, W: 2, Wait: 9, Sectors: 9}, 64},
		{"N", func(c *cluster.Config) *int { return &c.N }, cluster.Config{Replicas: 5, Points: 2, R: 1, W: 1, Wait: 9, Sectors: 9}, 5},
		{"R", func(c *cluster.Config) *int { return &c.R }, cluster.Config{Replicas: 5, Points: 2, N: 4, W: 1, Wait: 9, Sectors: 9}, 4},
		{"W", func(c *cluster.Config) *int { return &c.W }, cluster.Config{Replicas: 5, Points: 2, N: 3, R: 1, Wait: 9, Sectors: 9}, 3},
		{"Wait", func(c *cluster.Config) *int { return &c.Wait }, usual(), 1000},
	}
	for _, b := range bounds {
		for _, n := range []int{math.MinInt, -1, 0, 1, 2, b.most - 1, b.most, b.most + 1, 1<<32 + 1, math.MaxInt} {
			config := b.base
			*b.field(&config) = n
			checks(t, b.name, n, config, 1 <= n && n <= b.most)
		}
	}
	for _, n := range []int{math.MinInt, -4, 0, 3, 4, 5, 8191, 8192, 8193, 1<<32 + 4, math.MaxInt} {
		config := usual()
		config.Sectors = n
		checks(t, "Sectors", n, config, 4 <= n && n <= 8192)
	}
	checks(t, "nothing", 0, cluster.Config{}, false)
}

// checks: is it a config? There is a cluster of it then.
func checks(t *testing.T, name string, n int, config cluster.Config, ok bool) {
	t.Helper()
	want := api.ErrArg
	if ok {
		want = api.OK
	}
	tells(t, name, cluster.Check(config), want)
	c, e := cluster.New(config)
	if e != want || (c != nil) != ok {
		t.Errorf("%s %d: New: error %d, want %d", name, n, e, want)
	}
}

// P26.1: of what a new cluster is made.
func TestNew(t *testing.T) {
	for _, config := range []cluster.Config{usual(), {Replicas: 1, Points: 1, N: 1, R: 1, W: 1, Wait: 1, Sectors: 4}, {Replicas: 8, Points: 64, N: 8, R: 8, W: 8, Wait: 1000, Sectors: 77}} {
		c := made(t, config)
		for r := range config.Replicas {
			if n := len(c.Image(r)); n != 64*config.Sectors {
				t.Errorf("the disk of replica %d has %d bytes", r, n)
			}
			x := c.Replica(r)
			if x == nil || x.Shelf().Turn() != 1 || len(x.Shelf().Keys()) != 0 {
				t.Fatalf("replica %d isn't a new one", r)
			}
			b, to, e := x.Handle(bytesOf(t, msg.Msg{Kind: msg.Fetch, From: 8}))
			if m, _ := msg.Read(b); m.From != r || to != 8 || e != api.OK {
				t.Errorf("replica %d calls itself %d, error %d", r, m.From, e)
			}
			if c.Replica(r) != x {
				t.Errorf("replica %d is another one each time", r)
			}
		}
		for box := -1; box <= config.Replicas+1; box++ {
			want := api.OK
			if box < 0 || box > config.Replicas {
				want = api.ErrArg
			}
			if n := c.Net().Len(box); n != 0 {
				t.Errorf("%d messages are in box %d", n, box)
			}
			tells(t, "Send", c.Net().Send(box, []byte("x")), want)
		}
		for _, ask := range []int{math.MinInt, -2, 0, 1, 2, 4, math.MaxInt} {
			_, e := c.Op(ask)
			tells(t, "Op", e, api.ErrMiss)
		}
	}
}

// P26.1: the replicas are of the ring, and the N, that the config tells.
func TestRingOfReplicas(t *testing.T) {
	c := made(t, cluster.Config{Replicas: 5, Points: 7, N: 2, R: 1, W: 1, Wait: 1, Sectors: 2000})
	circle, e := ring.New(5, 7)
	if e != api.OK {
		t.Fatal(e)
	}
	for first := range 40 {
		key := keyOf(byte(first), 1)
		l, _ := circle.Prefer(key, 2)
		for r := range 5 {
			if is, e := c.Replica(r).Shelf().Merge(key, setOf(one(at(1, 1), ""))); !is || e != api.OK {
				t.Fatal(e)
			}
			for other := range 5 {
				want := r != other && slices.Contains(l, r) && slices.Contains(l, other)
				if got := slices.Contains(c.Replica(r).Tree(other).Keys(first), key); got != want {
					t.Errorf("key %d is of %d and %d: %v, want %v", first, r, other, got, want)
				}
			}
		}
	}
}

// P26.1, P1: a nil cluster, and one that New didn't make.
func TestNone(t *testing.T) {
	for _, c := range []*cluster.Cluster{nil, {}} {
		ask, e := c.Put(api.Blind{}, one(at(1, 1), ""))
		if ask != 0 {
			t.Errorf("Put: %d", ask)
		}
		tells(t, "Put", e, api.ErrArg)
		ask, e = c.Get(api.Blind{})
		if ask != 0 {
			t.Errorf("Get: %d", ask)
		}
		tells(t, "Get", e, api.ErrArg)
		o, e := c.Op(2)
		if !sameOp(o, cluster.Op{}) {
			t.Errorf("Op: %+v", o)
		}
		tells(t, "Op", e, api.ErrArg)
		c.Tick()
		for _, n := range []int{-1, 0, 1} {
			c.Up(n, false)
			c.Fuse(n, 1)
			tells(t, "Deliver", c.Deliver(n, 0), api.ErrArg)
			tells(t, "Lose", c.Lose(n, 0), api.ErrArg)
			tells(t, "Twice", c.Twice(n, 0), api.ErrArg)
			tells(t, "Crash", c.Crash(n, nil), api.ErrArg)
			tells(t, "Compare", c.Compare(n, 1-n), api.ErrArg)
			tells(t, "Hand", c.Hand(n, 1-n), api.ErrArg)
			if c.Image(n) != nil || c.Replica(n) != nil {
				t.Error("there is a replica")
			}
		}
		if n := c.Settle(); n != 0 || c.Net() != nil {
			t.Errorf("Settle: %d, or there is a net", n)
		}
	}
}

// P26.1, P1: of replicas that there aren't nothing is done, and nothing told.
func TestNoReplica(t *testing.T) {
	c, key, _ := usualOne(t)
	for _, r := range []int{math.MinInt, -1, usualFront, usualFront + 1, 1 << 32, math.MaxInt} {
		c.Up(r, false)
		c.Fuse(r, 1)
		tells(t, "Crash", c.Crash(r, nil), api.ErrArg)
		tells(t, "Compare", c.Compare(r, 0), api.ErrArg)
		tells(t, "Compare", c.Compare(0, r), api.ErrArg)
		tells(t, "Hand", c.Hand(r, 0), api.ErrArg)
		tells(t, "Hand", c.Hand(0, r), api.ErrArg)
		if c.Image(r) != nil || c.Replica(r) != nil {
			t.Errorf("there is a replica %d", r)
		}
	}
	empty(t, "no replica", c)
	puts(t, c, key, one(at(1, 1), "x"), 2)
	c.Settle()
	if o, _ := c.Op(2); !o.Done || o.Hinted || len(c.Net().Seen(usualFront)) != 3 {
		t.Errorf("%+v, of %d answers", o, len(c.Net().Seen(usualFront)))
	}
}

// P26.1: the net is the cluster's own, the image that of the disk as it is.
func TestParts(t *testing.T) {
	c, key, walk := usualOne(t)
	s := one(at(1, 1), "x")
	n := c.Net()
	if n == nil || c.Net() != n {
		t.Fatal("the net is another one each time")
	}
	tells(t, "Send", n.Send(walk[3], bytesOf(t, msg.Msg{Kind: msg.Store, From: usualFront, Ask: 2, Row: row(key, s)})), api.OK)
	was := c.Image(walk[3])
	tells(t, "Deliver", c.Deliver(walk[3], 0), api.OK)
	has(t, "Send", c, walk[3], key, s)
	if is := c.Image(walk[3]); bytes.Equal(was, is) || !bytes.Contains(is, key[:]) {
		t.Error("the image is what it was")
	}
	for r := range usualFront {
		if is := c.Image(r); r != walk[3] && !bytes.Equal(is, was) {
			t.Errorf("the image of replica %d has changed", r)
		}
	}
	var none *net.Net
	if made(t, usual()).Net() == none {
		t.Error("there is no net")
	}
}
