package cluster_test

import (
	"math"
	"slices"
	"testing"

	"casket/api"
	"casket/cluster"
	"casket/msg"
	"casket/ring"
	"casket/sibling"
)

// hears: the front gets a message, with this error; it is gone then.
func hears(t *testing.T, what string, c *cluster.Cluster, m msg.Msg, want api.Errno) {
	t.Helper()
	hearsBytes(t, what, c, bytesOf(t, m), want)
}

func hearsBytes(t *testing.T, what string, c *cluster.Cluster, b []byte, want api.Errno) {
	t.Helper()
	k := c.Net().Len(usualFront)
	tells(t, what, c.Net().Send(usualFront, b), api.OK)
	tells(t, what, c.Deliver(usualFront, k), want)
	if n := c.Net().Len(usualFront); n != k {
		t.Errorf("%s: %d messages are there, want %d", what, n, k)
	}
}

func stored(from, ask int, e api.Errno) msg.Msg {
	return msg.Msg{Kind: msg.Stored, From: from, Ask: ask, Err: e}
}

func fetched(from, ask int, key api.Blind, l ...sibling.Sibling) msg.Msg {
	return msg.Msg{Kind: msg.Fetched, From: from, Ask: ask, Row: row(key, l...)}
}

// clear: no messages are under way.
func clear(c *cluster.Cluster) {
	for box := range usualFront + 1 {
		c.Net().Clear(box)
	}
}

// upOf: who is up, by the bits of a number, told to a cluster.
func upOf(c *cluster.Cluster, bits int) []bool {
	var up []bool
	for r := range usualFront {
		up = append(up, bits>>r&1 == 1)
		c.Up(r, bits>>r&1 == 1)
	}
	return up
}

// P26.1: what a Put sends, and a Get, whoever is thought to be up.
func TestSent(t *testing.T) {
	circle, e := ring.New(usual().Replicas, usual().Points)
	if e != api.OK {
		t.Fatal(e)
	}
	c := made(t, usual())
	s := one(at(3, 4), "body", at(3, 3), at(1, 7))
	for bits := range 16 {
		up := upOf(c, bits)
		for first := range byte(8) {
			key := keyOf(first*31, 2)
			var stores, fetches [4][]msg.Msg
			pairs, e := circle.Stand(key, 3, up)
			if e != api.OK {
				t.Fatal(e)
			}
			ask, e := c.Put(key, s)
			tells(t, "Put", e, api.OK)
			for _, p := range pairs {
				m := msg.Msg{Kind: msg.Store, From: 4, Ask: ask, Row: row(key, s)}
				if p[0] != p[1] {
					m.Kind, m.For = msg.Hold, p[1]
				}
				stores[p[0]] = append(stores[p[0]], m)
			}
			for r := range 4 {
				waits(t, "Put", c, r, stores[r]...)
			}
			waits(t, "Put", c, 4)
			is(t, "Put", c, ask, cluster.Op{Put: true, Key: key, Set: setOf(s)})
			clear(c)
			ask, e = c.Get(key)
			tells(t, "Get", e, api.OK)
			l, _ := circle.Prefer(key, 3)
			for _, who := range l {
				if up[who] {
					fetches[who] = append(fetches[who], msg.Msg{Kind: msg.Fetch, From: 4, Ask: ask, Row: msg.Row{Key: key}})
				}
			}
			for r := range 4 {
				waits(t, "Get", c, r, fetches[r]...)
			}
			waits(t, "Get", c, 4)
			is(t, "Get", c, ask, cluster.Op{Key: key})
			clear(c)
		}
	}
}

// P26.1: Up is told as often as one likes, of one replica alone.
func TestUp(t *testing.T) {
	c, key, walk := usualOne(t)
	c.Up(walk[1], true)
	c.Up(walk[0], false)
	c.Up(walk[0], false)
	gets(t, c, key, 2)
	for i, want := range []int{0, 1, 1, 0} {
		if n := c.Net().Len(walk[i]); n != want {
			t.Errorf("%d messages are sent to replica %d, want %d", n, walk[i], want)
		}
	}
	c.Up(walk[0], true)
	gets(t, c, key, 4)
	for i, want := range []int{1, 2, 2, 0} {
		if n := c.Net().Len(walk[i]); n != want {
			t.Errorf("%d messages were sent to replica %d, want %d", n, walk[i], want)
		}
	}
}

// P26.1: Put's ErrArg: it begins nothing, and uses no ask up.
func TestPutErrArg(t *testing.T) {
	c, key, _ := usualOne(t)
	puts(t, c, key, one(at(1, 1), ""), 2)
	clear(c)
	long := one(at(1, 1), string(make([]byte, 16385)))
	unsorted := one(at(1, 1), "")
	unsorted.Past.More = []api.Dot{at(2, 9), at(2, 7)}
	crowded := one(at(1, 1), "") // ErrContext of its Past: it is ErrArg of the sibling
	for i := range 33 {
		crowded.Past.More = append(crowded.Past.More, at(2, 2+2*i))
	}
	upto := one(at(1, 1), "")
	upto.Past.Upto[3] = -1
	for i, s := range []sibling.Sibling{
		{}, one(at(0, 1), ""), one(at(17, 1), ""), one(at(1, 0), ""), one(at(1, 1<<40+1), ""), one(at(1, -1), ""),
		one(at(1, 1), "", at(1, 1)), one(at(2, 3), "", at(2, 1), at(2, 2), at(2, 3)), long, unsorted, crowded, upto,
	} {
		ask, e := c.Put(key, s)
		if ask != 0 || e != api.ErrArg {
			t.Errorf("sibling %d: Put: %d, error %d, want ErrArg", i, ask, e)
		}
		empty(t, "Put", c)
		_, e = c.Op(4)
		tells(t, "Op", e, api.ErrMiss)
	}
	for i, s := range []sibling.Sibling{
		one(at(1, 1), ""), one(at(16, 1<<40), "", at(16, 1<<40-1), at(1, 1)), one(at(1, 1), string(make([]byte, 16384))),
	} {
		puts(t, c, key, s, 4+2*i)
		is(t, "Put", c, 4+2*i, cluster.Op{Put: true, Key: key, Set: setOf(s)})
	}
}

// P26.1: asks are 2, 4, and so on, in the order in which operations begin; also of one key, and of nobody who is up.
func TestAsks(t *testing.T) {
	c, key, _ := usualOne(t)
	upOf(c, 0)
	for i := range 100 {
		if i%3 == 0 {
			puts(t, c, key, one(at(1, i+1), ""), 2+2*i)
		} else {
			gets(t, c, keyOf(byte(i), 0), 2+2*i)
		}
	}
	empty(t, "nobody", c)
	for _, ask := range []int{math.MinInt, -2, -1, 0, 1, 3, 199, 201, 202, 1<<32 + 2, math.MaxInt} {
		o, e := c.Op(ask)
		if !sameOp(o, cluster.Op{}) {
			t.Errorf("Op(%d): %+v", ask, o)
		}
		tells(t, "Op", e, api.ErrMiss)
	}
	is(t, "Op", c, 200, cluster.Op{Put: true, Key: key, Set: setOf(one(at(1, 100), ""))})
}

// P26.1: which Stored count, and when a Put is Done.
func TestPutAcks(t *testing.T) {
	config := usual()
	config.W = 3
	c, key, walk := made(t, config), keyOf(9, 1), []int(nil)
	_, _, walk = usualOne(t)
	s := one(at(1, 1), "x")
	puts(t, c, key, s, 2)
	gets(t, c, key, 4)
	puts(t, c, key, s, 6)
	clear(c)
	want := cluster.Op{Put: true, Key: key, Set: setOf(s)}
	for _, m := range []msg.Msg{
		stored(walk[0], 4, api.OK),          // of a Get
		stored(walk[0], 0, api.OK),          // of none
		stored(walk[0], 3, api.OK),          // of a comparison
		stored(walk[0], 8, api.OK),          // of one to come
		stored(walk[3], 2, api.OK),          // it wasn't sent to
		stored(4, 2, api.OK),                // nor the front
		stored(8, 2, api.OK),                // nor somebody else
		stored(walk[1], 2, api.ErrFull),     // it isn't kept
		stored(walk[1], 2, api.Errno(255)),  // nor here
		fetched(walk[1], 2, key, s),         // of a Put there is none
		stored(walk[1], 1<<62, api.OK),      // of one that can't be
		fetched(walk[1], 2, keyOf(1, 1), s), // of another key
	} {
		hears(t, "not for it", c, m, api.OK)
		is(t, "not for it", c, 2, want)
	}
	is(t, "a Get", c, 4, cluster.Op{Key: key})
	for i, who := range []int{walk[2], walk[0]} {
		want.Acks = append(want.Acks, who)
		for range 2 { // the second time it counts already
			hears(t, "Stored", c, stored(who, 2, api.OK), api.OK)
			is(t, "Stored", c, 2, want)
		}
		hears(t, "Stored", c, stored(who, 2, api.ErrFull), api.OK)
		is(t, "Stored", c, 2, want)
		if i == 0 {
			hears(t, "Stored", c, stored(walk[1], 2, api.ErrFull), api.OK)
		}
	}
	hears(t, "Stored", c, stored(walk[1], 2, api.OK), api.OK) // what had no room ahead
	want.Acks, want.Done = append(want.Acks, walk[1]), true
	is(t, "Done", c, 2, want)
	for _, who := range walk {
		hears(t, "late", c, stored(who, 2, api.OK), api.OK)
	}
	is(t, "late", c, 2, want)
	is(t, "another one", c, 6, cluster.Op{Put: true, Key: key, Set: setOf(s)})
	empty(t, "Stored", c)
}

// P26.1: a Put is Done with W Acks, not ahead and not behind.
func TestW(t *testing.T) {
	_, key, walk := usualOne(t)
	for w := 1; w <= 3; w++ {
		config := usual()
		config.R, config.W = 4-w, w
		c := made(t, config)
		puts(t, c, key, one(at(1, 1), "x"), 2)
		for i := range 3 {
			hears(t, "Stored", c, stored(walk[i], 2, api.OK), api.OK)
			want := cluster.Op{Put: true, Key: key, Set: setOf(one(at(1, 1), "x")), Done: i+1 >= w, Acks: walk[:min(i+1, w)]}
			is(t, "Stored", c, 2, want)
		}
	}
}

// P26.1: Hinted: a Hold counts, not that one was sent; a late one doesn't.
func TestHinted(t *testing.T) {
	s := one(at(1, 1), "x")
	for _, x := range []struct {
		down, w int
		order   []int // who answers, by its place in the walk
		hinted  bool
	}{
		{0, 2, []int{3, 1, 2}, true},
		{0, 2, []int{1, 3, 2}, true},
		{0, 2, []int{1, 2, 3}, false},
		{0, 3, []int{1, 2, 3}, true},
		{2, 1, []int{3, 0}, true},
		{2, 1, []int{0, 3}, false},
		{3, 3, []int{0, 1, 2}, false},
		{1, 2, []int{1, 3, 0}, true}, // who is down says something, and wasn't asked
	} {
		config := usual()
		config.W = x.w
		c := made(t, config)
		_, key, walk := usualOne(t)
		c.Up(walk[x.down], false)
		puts(t, c, key, s, 2)
		want := cluster.Op{Put: true, Key: key, Set: setOf(s)}
		for _, i := range x.order {
			hears(t, "Stored", c, stored(walk[i], 2, api.OK), api.OK)
			if i != x.down && !want.Done {
				want.Acks = append(want.Acks, walk[i])
				want.Hinted = want.Hinted || i == 3
				want.Done = len(want.Acks) == x.w
			}
			is(t, "Stored", c, 2, want)
		}
		if !want.Done || want.Hinted != x.hinted {
			t.Errorf("%v: hinted is %v, want %v", x, want.Hinted, x.hinted)
		}
	}
	c, key, walk := usualOne(t)
	c.Up(walk[0], false)
	puts(t, c, key, s, 2)
	hears(t, "not held", c, stored(walk[3], 2, api.ErrFull), api.OK)
	is(t, "not held", c, 2, cluster.Op{Put: true, Key: key, Set: setOf(s)})
	c.Up(walk[0], true) // what was sent stays what it was
	hears(t, "held", c, stored(walk[3], 2, api.OK), api.OK)
	is(t, "held", c, 2, cluster.Op{Put: true, Key: key, Set: setOf(s), Acks: walk[3:4], Hinted: true})
}

// P26.1: which Fetched count, and what a Get is Done with.
func TestGetAcks(t *testing.T) {
	config := usual()
	config.R = 3
	c := made(t, config)
	_, key, walk := usualOne(t)
	a, b := one(at(1, 1), "a"), one(at(2, 1), "b")
	newer := one(at(3, 1), "c", at(1, 1))
	gets(t, c, key, 2)
	puts(t, c, key, a, 4)
	gets(t, c, key, 6)
	clear(c)
	unread := fetched(walk[0], 2, key, a)
	unread.Row.Set = unread.Row.Set[1:]
	behind := fetched(walk[0], 2, key, a)
	behind.Row.Set = append(behind.Row.Set, 0)
	noBytes := msg.Msg{Kind: msg.Fetched, From: walk[0], Ask: 2, Row: msg.Row{Key: key}}
	for _, m := range []msg.Msg{
		fetched(walk[0], 4, key, a), fetched(walk[0], 0, key, a), fetched(walk[0], 3, key, a), fetched(walk[0], 8, key, a),
		fetched(walk[3], 2, key, a), fetched(4, 2, key, a), fetched(8, 2, key, a), fetched(walk[0], 2, keyOf(9, 2), a),
		fetched(walk[0], 2, keyOf(8, 1), a), unread, behind, noBytes, stored(walk[0], 2, api.OK),
	} {
		hears(t, "not for it", c, m, api.OK)
		is(t, "not for it", c, 2, cluster.Op{Key: key})
	}
	is(t, "a Put", c, 4, cluster.Op{Put: true, Key: key, Set: setOf(a)})
	hears(t, "Fetched", c, fetched(walk[1], 2, key, a, b), api.OK)
	is(t, "Fetched", c, 2, cluster.Op{Key: key, Acks: walk[1:2]})
	hears(t, "again", c, fetched(walk[1], 2, key, newer), api.OK)
	is(t, "again", c, 2, cluster.Op{Key: key, Acks: walk[1:2]})
	hears(t, "Fetched", c, fetched(walk[0], 2, key), api.OK)
	is(t, "Fetched", c, 2, cluster.Op{Key: key, Acks: []int{walk[1], walk[0]}})
	empty(t, "not Done", c)
	hears(t, "Fetched", c, fetched(walk[2], 2, key, newer), api.OK)
	want := cluster.Op{Key: key, Done: true, Set: setOf(b, newer), Acks: []int{walk[1], walk[0], walk[2]}}
	is(t, "Done", c, 2, want)
	for i, r := range []int{walk[1], walk[0], walk[2]} { // all lack something
		waits(t, "repair", c, r, msg.Msg{Kind: msg.Store, From: 4, Ask: otherAsk(i + 1), Row: row(key, b, newer)})
	}
	clear(c)
	hears(t, "late", c, fetched(walk[0], 2, key, one(at(4, 1), "d")), api.OK)
	is(t, "late", c, 2, want)
	is(t, "another one", c, 6, cluster.Op{Key: key})
	empty(t, "late", c)
	gets(t, c, key, 8) // the repairs' asks are no operations'
}

// P26.1: a Get is Done with R answers, not ahead and not behind; of one Dot the first one's sibling is told.
func TestR(t *testing.T) {
	_, key, walk := usualOne(t)
	first, second := one(at(1, 1), "first"), one(at(1, 1), "second")
	for r := 1; r <= 3; r++ {
		config := usual()
		config.R, config.W = r, 4-r
		c := made(t, config)
		gets(t, c, key, 2)
		for i := range 3 {
			s := first
			if i > 0 {
				s = second
			}
			hears(t, "Fetched", c, fetched(walk[2-i], 2, key, s), api.OK)
			want := cluster.Op{Key: key, Done: i+1 >= r}
			for k := range min(i+1, r) {
				want.Acks = append(want.Acks, walk[2-k])
			}
			if want.Done {
				want.Set = setOf(first)
			}
			is(t, "Fetched", c, 2, want)
		}
		for i := range 3 { // it was asked; then, if its answer is another one, it is told
			want := []msg.Msg{{Kind: msg.Fetch, From: 4, Ask: 2, Row: msg.Row{Key: key}}}
			if i > 0 && i < r {
				want = append(want, msg.Msg{Kind: msg.Store, From: 4, Ask: otherAsk(i), Row: row(key, first)})
			}
			waits(t, "repair", c, walk[2-i], want...)
		}
	}
}

// P26.1: of no siblings there are none, and nobody lacks any; of who lacks something a Store, that tells it all.
func TestRepair(t *testing.T) {
	c, key, walk := usualOne(t)
	gets(t, c, key, 2)
	if n := c.Settle(); n != 6 {
		t.Errorf("%d messages, want 6", n)
	}
	if o, _ := c.Op(2); !o.Done || o.Err != api.OK || len(o.Set) != 0 || len(o.Acks) != 2 {
		t.Errorf("%+v", o)
	}
	s := one(at(1, 1), "x")
	puts(t, c, key, s, 4)
	for _, r := range walk[:3] {
		if r != walk[1] {
			tells(t, "Lose", c.Lose(r, 0), api.OK)
		}
	}
	c.Settle()
	is(t, "one kept it", c, 4, cluster.Op{Put: true, Key: key, Set: setOf(s), Acks: walk[1:2]})
	gets(t, c, key, 6)
	tells(t, "Lose", c.Lose(walk[2], 0), api.OK)
	c.Settle()
	if o, _ := c.Op(6); !o.Done || !sibling.Same(o.Set, setOf(s)) {
		t.Errorf("%+v", o)
	}
	has(t, "repaired", c, walk[0], key, s)
	has(t, "not asked", c, walk[2], key)
	seen := c.Net().Seen(usualFront)
	if m, _ := msg.Read(seen[len(seen)-1]); m.Kind != msg.Stored || m.Ask != otherAsk(1) || m.From != walk[0] {
		t.Errorf("the last message is %+v, want that the repair is kept", m)
	}
	_, e := c.Op(otherAsk(1))
	tells(t, "a repair's ask", e, api.ErrMiss)
	gets(t, c, key, 8)
}

// P26.1: what comes too late is neither kept nor repaired by.
func TestLateFetched(t *testing.T) {
	c, key, walk := usualOne(t)
	gets(t, c, key, 2)
	for range 6 {
		c.Tick()
	}
	clear(c)
	want := cluster.Op{Key: key, Done: true, Err: api.ErrTimeout}
	is(t, "Tick", c, 2, want)
	for i, r := range walk[:3] {
		hears(t, "late", c, fetched(r, 2, key, many(i+1, 2)...), api.OK)
	}
	is(t, "late", c, 2, want)
	empty(t, "late", c)
}

// P26.1: answers that come to nothing whole: the error, no Set, nobody is told, and it is Done.
func TestWholeErrors(t *testing.T) {
	c, key, walk := usualOne(t)
	gets(t, c, key, 2)
	clear(c)
	hears(t, "Fetched", c, fetched(walk[0], 2, key, many(1, 60)...), api.OK)
	hears(t, "Fetched", c, fetched(walk[1], 2, key, many(2, 5)...), api.OK)
	want := cluster.Op{Key: key, Done: true, Err: api.ErrBig, Acks: walk[:2]}
	is(t, "too many", c, 2, want)
	empty(t, "too many", c)
	hears(t, "late", c, fetched(walk[2], 2, key), api.OK)
	for range 9 {
		c.Tick()
	}
	is(t, "late", c, 2, want)
	gets(t, c, key, 4)
	clear(c)
	hears(t, "Fetched", c, fetched(walk[0], 4, key, many(1, 60)...), api.OK)
	hears(t, "Fetched", c, fetched(walk[1], 4, key, many(2, 4)...), api.OK)
	is(t, "as many as there may be", c, 4, cluster.Op{Key: key, Done: true, Acks: walk[:2], Set: append(many(1, 60), many(2, 4)...)})
	if c.Net().Len(walk[0]) != 1 || c.Net().Len(walk[1]) != 1 {
		t.Error("who lacks something isn't told")
	}
}

// P26.1: ErrDecode at the front: what is no message, or none of Stored and Fetched; it is gone, and nothing has changed.
func TestFrontErrDecode(t *testing.T) {
	c, key, walk := usualOne(t)
	s := one(at(1, 1), "x")
	puts(t, c, key, s, 2)
	gets(t, c, key, 4)
	clear(c)
	for _, b := range [][]byte{nil, {0}, {9}, []byte("nothing"), bytesOf(t, stored(walk[0], 2, 0))[1:], append(bytesOf(t, stored(walk[0], 2, 0)), 0)} {
		hearsBytes(t, "no message", c, b, api.ErrDecode)
	}
	for _, m := range []msg.Msg{
		{Kind: msg.Store, From: walk[0], Ask: 2, Row: row(key, s)},
		{Kind: msg.Fetch, From: walk[0], Ask: 2, Row: msg.Row{Key: key}},
		{Kind: msg.Hold, From: walk[0], Ask: 2, Row: row(key, s)},
		{Kind: msg.Nodes, From: walk[0], Ask: 2, At: []int{0}, Digests: [][32]byte{{}}},
		{Kind: msg.Rows, From: walk[0], Ask: 2, Rows: []msg.Row{row(key, s)}},
	} {
		hears(t, "not for the front", c, m, api.ErrDecode)
	}
	is(t, "Put", c, 2, cluster.Op{Put: true, Key: key, Set: setOf(s)})
	is(t, "Get", c, 4, cluster.Op{Key: key})
	empty(t, "nothing", c)
}

// P26.1: who has no room for it isn't sent it: its answer doesn't count.
func TestFrontWithoutRoom(t *testing.T) {
	c, key, walk := usualOne(t)
	s := one(at(1, 1), "x")
	fill(t, c, walk[1])
	puts(t, c, key, s, 2)
	gets(t, c, key, 4)
	for i, want := range []int{2, 64, 2, 0} {
		if n := c.Net().Len(walk[i]); n != want {
			t.Errorf("%d messages are in box %d, want %d", n, walk[i], want)
		}
	}
	hears(t, "not sent to", c, stored(walk[1], 2, api.OK), api.OK)
	is(t, "not sent to", c, 2, cluster.Op{Put: true, Key: key, Set: setOf(s)})
	hears(t, "not sent to", c, fetched(walk[1], 4, key, s), api.OK)
	is(t, "not sent to", c, 4, cluster.Op{Key: key})
	for _, r := range []int{walk[0], walk[2]} {
		hears(t, "sent to", c, stored(r, 2, api.OK), api.OK)
	}
	is(t, "sent to", c, 2, cluster.Op{Put: true, Key: key, Set: setOf(s), Done: true, Acks: []int{walk[0], walk[2]}})
	fill(t, c, walk[0])
	hears(t, "Fetched", c, fetched(walk[0], 4, key), api.OK)
	hears(t, "Fetched", c, fetched(walk[2], 4, key, s), api.OK) // the repair has no room
	is(t, "not repaired", c, 4, cluster.Op{Key: key, Done: true, Set: setOf(s), Acks: []int{walk[0], walk[2]}})
	if n := c.Net().Len(walk[0]); n != 64 {
		t.Errorf("%d messages are in the box, want 64", n)
	}
}

// P26.1: an operation ends at the Tick at which its deadline is now or past; Wait is that of the config.
func TestTick(t *testing.T) {
	for _, wait := range []int{1, 2, 5, 1000} {
		config := usual()
		config.Wait = wait
		c := made(t, config)
		_, key, walk := usualOne(t)
		s := one(at(1, 1), "x")
		puts(t, c, key, s, 2)
		hears(t, "Stored", c, stored(walk[0], 2, api.OK), api.OK)
		c.Tick()
		gets(t, c, key, 4)
		puts(t, c, key, s, 6) // Done in time: Tick leaves it
		for _, r := range walk[:2] {
			hears(t, "Stored", c, stored(r, 6, api.OK), api.OK)
		}
		for range wait - 1 {
			c.Tick()
		}
		is(t, "not yet", c, 2, cluster.Op{Put: true, Key: key, Set: setOf(s), Acks: walk[:1]})
		c.Tick()
		put := cluster.Op{Put: true, Key: key, Set: setOf(s), Acks: walk[:1], Done: true, Err: api.ErrTimeout}
		is(t, "now", c, 2, put)
		is(t, "not yet", c, 4, cluster.Op{Key: key})
		hears(t, "Fetched", c, fetched(walk[1], 4, key, s), api.OK)
		c.Tick()
		get := cluster.Op{Key: key, Acks: walk[1:2], Done: true, Err: api.ErrTimeout}
		is(t, "a step behind", c, 4, get)
		for range 3 {
			c.Tick()
		}
		is(t, "later", c, 2, put)
		is(t, "later", c, 4, get)
		is(t, "in time", c, 6, cluster.Op{Put: true, Key: key, Set: setOf(s), Acks: walk[:2], Done: true})
	}
}

// P26.1: time goes on with each Tick, whatever is under way.
func TestTickAlone(t *testing.T) {
	c, key, _ := usualOne(t)
	for range 3 {
		c.Tick()
	}
	gets(t, c, key, 2)
	for range 5 {
		c.Tick()
	}
	is(t, "not yet", c, 2, cluster.Op{Key: key})
	c.Settle() // no time goes by
	c.Tick()
	if o, _ := c.Op(2); !o.Done || o.Err != api.OK {
		t.Errorf("%+v", o)
	}
	gets(t, c, key, 4)
	for range 6 {
		c.Tick()
	}
	is(t, "now", c, 4, cluster.Op{Key: key, Done: true, Err: api.ErrTimeout})
}

// P26.1: two operations of one key are two: what one is told the other one isn't.
func TestOperationsApart(t *testing.T) {
	c, key, walk := usualOne(t)
	a, b := one(at(1, 1), "a"), one(at(2, 1), "b")
	puts(t, c, key, a, 2)
	puts(t, c, key, b, 4)
	gets(t, c, key, 6)
	gets(t, c, key, 8)
	hears(t, "Stored", c, stored(walk[2], 4, api.OK), api.OK)
	hears(t, "Stored", c, stored(walk[1], 4, api.OK), api.OK)
	hears(t, "Fetched", c, fetched(walk[2], 8, key, b), api.OK)
	hears(t, "Fetched", c, fetched(walk[0], 6, key, a), api.OK)
	is(t, "apart", c, 2, cluster.Op{Put: true, Key: key, Set: setOf(a)})
	is(t, "apart", c, 4, cluster.Op{Put: true, Key: key, Set: setOf(b), Done: true, Acks: []int{walk[2], walk[1]}})
	is(t, "apart", c, 6, cluster.Op{Key: key, Acks: walk[:1]})
	is(t, "apart", c, 8, cluster.Op{Key: key, Acks: walk[2:3]})
	clear(c)
	hears(t, "Fetched", c, fetched(walk[0], 8, key), api.OK)
	hears(t, "Fetched", c, fetched(walk[1], 6, key, a), api.OK)
	is(t, "Done", c, 8, cluster.Op{Key: key, Done: true, Acks: []int{walk[2], walk[0]}, Set: setOf(b)})
	is(t, "Done", c, 6, cluster.Op{Key: key, Done: true, Acks: walk[:2], Set: setOf(a)})
	waits(t, "repair", c, walk[0], msg.Msg{Kind: msg.Store, From: 4, Ask: otherAsk(1), Row: row(key, b)})
}

// P26.6: what is handed in isn't kept or changed, its spare room neither; answers are new memory.
func TestMemory(t *testing.T) {
	c, key, _ := usualOne(t)
	body := []byte("body, and spare room")
	s := sibling.Sibling{Dot: at(1, 5), Body: body[:4]}
	s.Past.More = append(make([]api.Dot, 0, 9), at(2, 3), at(3, 7))
	same := one(at(1, 5), "body", at(2, 3), at(3, 7))
	puts(t, c, key, s, 2)
	if string(body) != "body, and spare room" || !sibling.Same(setOf(s), setOf(same)) || !slices.Equal(s.Past.More[:9][2:], make([]api.Dot, 7)) {
		t.Error("Put has changed what was handed in")
	}
	body[0], s.Past.More[0], s.Past.More[1] = 'X', at(9, 9), at(9, 11)
	want := cluster.Op{Put: true, Key: key, Set: setOf(same)}
	is(t, "spoilt", c, 2, want)
	c.Settle()
	o, _ := c.Op(2)
	want.Done, want.Acks = true, slices.Clone(o.Acks)
	is(t, "settled", c, 2, want)
	gets(t, c, key, 4)
	c.Settle()
	for _, ask := range []int{2, 4} {
		o, _ := c.Op(ask)
		was := o
		was.Set, was.Acks = setOf(one(at(1, 5), "body", at(2, 3), at(3, 7))), slices.Clone(o.Acks)
		is(t, "Op", c, ask, was)
		o.Set[0].Body[0], o.Set[0].Past.More[0], o.Acks[0] = 'X', at(9, 9), 77
		is(t, "Op is spoilt", c, ask, was)
		o.Set[0].Dot = at(8, 8)
		is(t, "Op is spoilt", c, ask, was)
	}
	stay := []bool{true, false, true}
	tells(t, "Crash", c.Crash(0, stay[:1]), api.OK)
	if !slices.Equal(stay, []bool{true, false, true}) {
		t.Error("Crash has changed what was handed in")
	}
	image := c.Image(0)
	for i := range image {
		image[i] = 0xEE
	}
	if b := c.Image(0); slices.Equal(b, image) || len(b) != len(image) {
		t.Error("the image is kept")
	}
	tells(t, "Crash", c.Crash(0, nil), api.OK)
}
