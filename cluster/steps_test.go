package cluster_test

import (
	"bytes"
	"math"
	"slices"
	"testing"

	"casket/api"
	"casket/cluster"
	"casket/merkle"
	"casket/msg"
	"casket/sibling"
)

// store: who tells a replica to keep something.
func store(from, ask int, key api.Blind, l ...sibling.Sibling) msg.Msg {
	return msg.Msg{Kind: msg.Store, From: from, Ask: ask, Row: row(key, l...)}
}

func hold(from, ask, whom int, key api.Blind, l ...sibling.Sibling) msg.Msg {
	return msg.Msg{Kind: msg.Hold, From: from, Ask: ask, For: whom, Row: row(key, l...)}
}

func fetch(from, ask int, key api.Blind) msg.Msg {
	return msg.Msg{Kind: msg.Fetch, From: from, Ask: ask, Row: msg.Row{Key: key}}
}

// sends: a message is put into a box, behind the others.
func sends(t *testing.T, c *cluster.Cluster, box int, m msg.Msg) {
	t.Helper()
	tells(t, "Send", c.Net().Send(box, bytesOf(t, m)), api.OK)
}

// delivers: the first message of a box, with this error.
func delivers(t *testing.T, what string, c *cluster.Cluster, box int, want api.Errno) {
	t.Helper()
	tells(t, what, c.Deliver(box, 0), want)
}

// keeps: a replica gets siblings at once, not by the net.
func keeps(t *testing.T, c *cluster.Cluster, r int, key api.Blind, l ...sibling.Sibling) {
	t.Helper()
	if _, e := c.Replica(r).Shelf().Merge(key, l); e != api.OK {
		t.Fatalf("Merge: error %d", e)
	}
}

// blown: the power of a replica's disk goes off, and it meets that by a message.
func blown(t *testing.T, c *cluster.Cluster, r int) {
	t.Helper()
	c.Fuse(r, 1)
	k := c.Net().Len(r)
	sends(t, c, r, store(usualFront, 0, keyOf(77, 77), one(at(5, 5), "lost")))
	tells(t, "the power goes off", c.Deliver(r, k), api.ErrDown)
	if n := c.Net().Len(r); n != k {
		t.Errorf("%d messages are in box %d, want %d", n, r, k)
	}
}

// images: of all replicas.
func images(c *cluster.Cluster) [][]byte {
	var out [][]byte
	for r := range usualFront {
		out = append(out, c.Image(r))
	}
	return out
}

// untouched: the images are those.
func untouched(t *testing.T, what string, c *cluster.Cluster, was [][]byte) {
	t.Helper()
	for r, b := range images(c) {
		if !bytes.Equal(b, was[r]) {
			t.Errorf("%s: the disk of replica %d has changed", what, r)
		}
	}
}

// P26.1: Deliver, Lose and Twice tell the net's errors, and change nothing then.
func TestNetErrors(t *testing.T) {
	c, key, _ := usualOne(t)
	for box := range usualFront + 1 {
		for i := range box {
			sends(t, c, box, fetch(usualFront, 2*i, key))
		}
	}
	calls := map[string]func(box, k int) api.Errno{"Deliver": c.Deliver, "Lose": c.Lose, "Twice": c.Twice}
	for name, call := range calls {
		for box := range usualFront + 1 {
			for _, k := range []int{math.MinInt, -1, box, box + 1, 64, 1 << 32, math.MaxInt} {
				tells(t, name, call(box, k), api.ErrMiss)
			}
		}
		for _, box := range []int{math.MinInt, -1, usualFront + 1, 9, 1 << 32, math.MaxInt} {
			for _, k := range []int{-1, 0, 1} {
				tells(t, name, call(box, k), api.ErrArg)
			}
		}
		for box := range usualFront + 1 {
			if n := c.Net().Len(box); n != box || len(c.Net().Seen(box)) != 0 {
				t.Errorf("%s: %d messages are in box %d, want %d, or one was taken", name, n, box, box)
			}
		}
	}
}

// P26.1: the k-th message of a box comes, the answer goes to whom it is for, behind what is there.
func TestDeliver(t *testing.T) {
	c, key, _ := usualOne(t)
	a, b, d := one(at(1, 1), "a"), one(at(2, 1), "b"), one(at(3, 1), "d")
	for i, s := range setOf(a, b, d) {
		sends(t, c, 2, store([]int{usualFront, 0, 3}[i], 2*i, key, s))
	}
	sends(t, c, usualFront, fetch(0, 9, key))
	tells(t, "Deliver", c.Deliver(2, 1), api.OK)
	has(t, "the middle one", c, 2, key, b)
	waits(t, "the middle one", c, 0, stored(2, 2, api.OK))
	waits(t, "the middle one", c, 2, store(usualFront, 0, key, a), store(3, 4, key, d))
	tells(t, "Deliver", c.Deliver(2, 1), api.OK)
	has(t, "the last one", c, 2, key, b, d)
	waits(t, "the last one", c, 3, stored(2, 4, api.OK))
	tells(t, "Deliver", c.Deliver(2, 0), api.OK)
	has(t, "the first one", c, 2, key, a, b, d)
	waits(t, "the first one", c, usualFront, fetch(0, 9, key), stored(2, 0, api.OK))
	waits(t, "all", c, 2)
	sends(t, c, 2, fetch(2, 6, key)) // its answer is for itself
	delivers(t, "Fetch", c, 2, api.OK)
	waits(t, "for itself", c, 2, fetched(2, 6, key, a, b, d))
	for _, r := range []int{0, 1, 3} {
		has(t, "another one", c, r, key)
	}
}

// P26.1: of no answer nothing is sent.
func TestNoAnswer(t *testing.T) {
	c, key, _ := usualOne(t)
	sends(t, c, 1, stored(3, 2, api.OK))
	sends(t, c, 1, msg.Msg{Kind: msg.Rows, From: 0, Ask: 3, Rows: []msg.Row{row(key)}})
	delivers(t, "Stored", c, 1, api.OK)
	delivers(t, "Rows", c, 1, api.OK)
	empty(t, "no answer", c)
}

// P26.1: what a replica refuses is gone, with Handle's error; nothing is sent.
func TestRefused(t *testing.T) {
	c, key, walk := usualOne(t)
	was := images(c)
	for _, b := range [][]byte{nil, []byte("nothing"), append(bytesOf(t, fetch(usualFront, 2, key)), 0)} {
		tells(t, "Send", c.Net().Send(1, b), api.OK)
		delivers(t, "no message", c, 1, api.ErrDecode)
	}
	unread := store(usualFront, 2, key)
	unread.Row.Set = []byte{1}
	for _, m := range []msg.Msg{fetched(0, 2, key), unread, {Kind: msg.Rows, From: usualFront}, {Kind: msg.Nodes, From: 1}} {
		sends(t, c, 1, m)
		delivers(t, "refused", c, 1, api.ErrDecode)
	}
	empty(t, "refused", c)
	untouched(t, "refused", c, was)

	config := usual()
	config.Sectors = 20
	small := made(t, config)
	rows := msg.Msg{Kind: msg.Rows, From: walk[1], Ask: 2, Rows: []msg.Row{row(key, one(at(1, 1), string(make([]byte, 2000))))}}
	sends(t, small, walk[0], rows)
	delivers(t, "no room", small, walk[0], api.ErrFull)
	sends(t, small, walk[0], store(usualFront, 2, key, one(at(1, 1), string(make([]byte, 2000)))))
	delivers(t, "no room", small, walk[0], api.OK) // it is told
	waits(t, "no room", small, usualFront, stored(walk[0], 2, api.ErrFull))
}

// P26.1: an answer that can't be written: Handle's ErrBig.
func TestAnswerTooBig(t *testing.T) {
	config := cluster.Config{Replicas: 2, Points: 1, N: 2, R: 1, W: 1, Wait: 1, Sectors: 8192}
	c := made(t, config)
	for i := range 256 {
		keeps(t, c, 1, keyOf(9, byte(i)), one(at(1, 1), ""))
	}
	sends(t, c, 1, msg.Msg{Kind: msg.Nodes, From: 0, Ask: 2, Level: 4, At: []int{9}, Digests: make([][32]byte, 1)})
	delivers(t, "too big", c, 1, api.ErrBig)
	if c.Net().Len(0)+c.Net().Len(1)+c.Net().Len(2) != 0 {
		t.Error("there is an answer, or the message waits")
	}
}

// P26.1: an answer that has no room: ErrInbox; what the message asked for is done, and it is gone.
func TestAnswerWithoutRoom(t *testing.T) {
	c, key, _ := usualOne(t)
	a, b := one(at(1, 1), "a"), one(at(2, 1), "b")
	fill(t, c, usualFront)
	fill(t, c, 3)
	sends(t, c, 1, store(usualFront, 2, key, a))
	delivers(t, "the front's box", c, 1, api.ErrInbox)
	has(t, "the front's box", c, 1, key, a)
	sends(t, c, 1, store(3, 2, key, b))
	delivers(t, "a replica's box", c, 1, api.ErrInbox)
	has(t, "a replica's box", c, 1, key, a, b)
	waits(t, "gone", c, 1)
	if c.Net().Len(3) != 64 || c.Net().Len(usualFront) != 64 {
		t.Error("a box has another number of messages")
	}
	tells(t, "Lose", c.Lose(3, 5), api.OK)
	sends(t, c, 1, store(3, 2, key, b))
	delivers(t, "there is room", c, 1, api.OK)
	if n := c.Net().Len(3); n != 64 {
		t.Errorf("%d messages, want 64", n)
	}
	fill(t, c, 0)
	tells(t, "Lose", c.Lose(0, 0), api.OK)
	sends(t, c, 0, fetch(0, 2, key)) // the box is full till it is taken
	tells(t, "for itself", c.Deliver(0, 63), api.OK)
	if n := c.Net().Len(0); n != 64 {
		t.Errorf("%d messages, want 64", n)
	}
}

// P26.1: an answer to a number that no box has: the net's ErrArg; the message was handled.
func TestAnswerToNobody(t *testing.T) {
	c, key, _ := usualOne(t)
	for i, from := range []int{5, 8} {
		s := one(at(1, i+1), "")
		sends(t, c, 1, store(from, 2, key, s))
		delivers(t, "nobody", c, 1, api.ErrArg)
		if l := c.Replica(1).Shelf().Get(key); len(l) != i+1 {
			t.Errorf("%d siblings, want %d", len(l), i+1)
		}
	}
	empty(t, "nobody", c)
}

// P26.1: ErrDown: what met it is gone; from then on a message waits, whatever it is, till the replica is opened anew.
func TestDeliverDown(t *testing.T) {
	c, key, walk := usualOne(t)
	a := one(at(1, 1), "a")
	down, other := walk[0], walk[1]
	keeps(t, c, down, key, a)
	c.Fuse(down, 1)
	sends(t, c, down, fetch(usualFront, 2, key))
	delivers(t, "it reads, and hasn't met it", c, down, api.OK)
	waits(t, "it reads", c, usualFront, fetched(down, 2, key, a))
	sends(t, c, down, store(usualFront, 4, keyOf(1, 1), a))
	sends(t, c, down, fetch(usualFront, 6, key))
	sends(t, c, down, store(usualFront, 8, key, a))
	sends(t, c, down, stored(other, 8, api.OK))
	tells(t, "nothing", c.Net().Send(down, []byte("nothing")), api.OK)
	delivers(t, "it meets it", c, down, api.ErrDown)
	was := images(c)
	for k := range 4 {
		tells(t, "it is down", c.Deliver(down, k), api.ErrDown)
	}
	for _, k := range []int{-1, 4, 5} {
		tells(t, "no such message", c.Deliver(down, k), api.ErrMiss)
	}
	if n, seen := c.Net().Len(down), len(c.Net().Seen(down)); n != 4 || seen != 2 {
		t.Errorf("%d messages wait, %d were taken, want 4, 2", n, seen)
	}
	untouched(t, "down", c, was)
	waits(t, "down", c, usualFront, fetched(down, 2, key, a))
	tells(t, "Lose", c.Lose(down, 3), api.OK)
	tells(t, "Twice", c.Twice(down, 0), api.OK)
	waits(t, "Lose, Twice", c, down, fetch(usualFront, 6, key), store(usualFront, 8, key, a), stored(other, 8, api.OK), fetch(usualFront, 6, key))
	sends(t, c, other, store(usualFront, 10, key, a))
	delivers(t, "another one", c, other, api.OK)
	has(t, "another one", c, other, key, a)
	tells(t, "Crash", c.Crash(down, nil), api.OK)
	waits(t, "opened anew", c, down)
	sends(t, c, down, store(usualFront, 12, keyOf(1, 1), a))
	delivers(t, "opened anew", c, down, api.OK)
	has(t, "opened anew", c, down, keyOf(1, 1), a)
}

// P26.1: Lose: the k-th message is gone, and that is all. Twice: it stands behind the others once more.
func TestLoseTwice(t *testing.T) {
	c, key, _ := usualOne(t)
	was := images(c)
	for _, box := range []int{0, usualFront} {
		for ask := range 4 {
			sends(t, c, box, fetch(1, ask, key))
		}
		tells(t, "Lose", c.Lose(box, 1), api.OK)
		waits(t, "Lose", c, box, fetch(1, 0, key), fetch(1, 2, key), fetch(1, 3, key))
		tells(t, "Twice", c.Twice(box, 1), api.OK)
		waits(t, "Twice", c, box, fetch(1, 0, key), fetch(1, 2, key), fetch(1, 3, key), fetch(1, 2, key))
		for c.Net().Len(box) < 64 {
			tells(t, "Twice", c.Twice(box, 0), api.OK)
		}
		tells(t, "Twice", c.Twice(box, 0), api.ErrInbox)
		tells(t, "Twice", c.Twice(box, 64), api.ErrMiss)
		tells(t, "Twice", c.Twice(box, -1), api.ErrMiss)
		tells(t, "Lose", c.Lose(box, 63), api.OK)
		tells(t, "Twice", c.Twice(box, 62), api.OK)
		if n := c.Net().Len(box); n != 64 {
			t.Errorf("%d messages, want 64", n)
		}
		c.Net().Clear(box)
	}
	empty(t, "Lose, Twice", c)
	untouched(t, "Lose, Twice", c, was)
}

// P26.1: what comes twice is kept, and counts, once.
func TestTwiceCounts(t *testing.T) {
	c, key, walk := usualOne(t)
	s := one(at(1, 1), "x")
	puts(t, c, key, s, 2)
	tells(t, "Twice", c.Twice(walk[2], 0), api.OK)
	delivers(t, "Store", c, walk[2], api.OK)
	turn := c.Replica(walk[2]).Shelf().Turn()
	delivers(t, "Store", c, walk[2], api.OK)
	has(t, "twice", c, walk[2], key, s)
	if n := c.Replica(walk[2]).Shelf().Turn(); n != turn {
		t.Error("it was written twice")
	}
	waits(t, "twice", c, usualFront, stored(walk[2], 2, api.OK), stored(walk[2], 2, api.OK))
	delivers(t, "Stored", c, usualFront, api.OK)
	delivers(t, "Stored", c, usualFront, api.OK)
	is(t, "twice", c, 2, cluster.Op{Put: true, Key: key, Set: setOf(s), Acks: walk[2:3]})
}

// P26.1: Fuse: at the n-th write or Sync the power goes off; of n below 1 it doesn't any more. Others stay on.
func TestFuse(t *testing.T) {
	s := one(at(1, 1), string(make([]byte, 100)))
	write := func(t *testing.T, fuses ...int) api.Errno {
		c, key, _ := usualOne(t)
		for _, n := range fuses {
			c.Fuse(2, n)
		}
		was := images(c)
		sends(t, c, 2, store(usualFront, 2, key, s))
		e := c.Deliver(2, 0)
		sends(t, c, 1, store(usualFront, 2, key, s))
		delivers(t, "another one", c, 1, api.OK)
		if bytes.Equal(was[2], c.Image(2)) {
			t.Error("nothing was written")
		}
		return e
	}
	var writes int // of a Merge, Syncs too
	for writes = 1; write(t, writes) == api.ErrDown; writes++ {
		if writes > 20 {
			t.Fatal("it goes off at each write")
		}
	}
	if writes < 6 {
		t.Errorf("it goes off at %d writes", writes-1)
	}
	tells(t, "beyond", write(t, writes+5), api.OK)
	tells(t, "the last one counts", write(t, writes+5, writes-1), api.ErrDown)
	for _, n := range []int{0, -1, math.MinInt, math.MaxInt} {
		tells(t, "none any more", write(t, 1, n), api.OK)
	}
}

// P26.1: a fuse that blows off at nothing that is written stays; a crash takes it.
func TestFuseAndCrash(t *testing.T) {
	c, key, _ := usualOne(t)
	c.Fuse(1, 1)
	tells(t, "Crash", c.Crash(1, nil), api.OK)
	sends(t, c, 1, store(usualFront, 2, key, one(at(1, 1), "")))
	delivers(t, "Store", c, 1, api.OK)
	blown(t, c, 1)
	c.Fuse(1, 0) // the power stays off
	sends(t, c, 1, fetch(usualFront, 2, key))
	delivers(t, "Fetch", c, 1, api.ErrDown)
}

// P26.1: a crash: what was answered is there, the box is empty, deliveries are gone; others, the front, and who is thought to be up stay as they were.
func TestCrash(t *testing.T) {
	c, key, walk := usualOne(t)
	a, b := one(at(1, 1), "a"), one(at(2, 1), "b")
	for r := range usualFront {
		keeps(t, c, r, key, a)
	}
	r, whom := walk[3], walk[0]
	sends(t, c, r, hold(usualFront, 2, whom, key, b))
	delivers(t, "Hold", c, r, api.OK)
	tells(t, "Hand", c.Hand(r, whom), api.OK)
	c.Up(r, false)
	for box := range usualFront + 1 {
		sends(t, c, box, fetch(usualFront, 20, key))
	}
	was, before := images(c), c.Replica(r)
	tells(t, "Crash", c.Crash(r, nil), api.OK)
	untouched(t, "Crash", c, was)
	if c.Replica(r) == before || c.Replica(r) == nil {
		t.Error("the replica is the one that it was")
	}
	for box := range usualFront + 1 {
		want := map[int]int{r: 0, whom: 2, usualFront: 2}
		n, is := want[box]
		if !is {
			n = 1
		}
		if c.Net().Len(box) != n {
			t.Errorf("%d messages are in box %d, want %d", c.Net().Len(box), box, n)
		}
	}
	has(t, "Crash", c, r, key, a)
	holds(t, "Crash", c, r, whom, key)
	clear(c)
	sends(t, c, r, stored(whom, otherAsk(1), api.OK)) // of the delivery: it isn't under way any more
	delivers(t, "Stored", c, r, api.OK)
	holds(t, "Stored", c, r, whom, key)
	c.Up(walk[2], false)
	puts(t, c, key, a, 2)
	if c.Net().Len(r) != 0 || c.Net().Len(walk[1]) != 1 {
		t.Error("a crash changes who is thought to be up")
	}
}

// P26.1: which loose writes stay is as it is told; then the shelf is as ahead of the one under way, or with it.
func TestCrashStay(t *testing.T) {
	a, b := one(at(1, 1), "a"), one(at(1, 2), string(make([]byte, 200)), at(1, 1))
	met := map[bool]int{}
	for n := 1; n < 12; n++ {
		for bits := range 256 {
			c, key, _ := usualOne(t)
			keeps(t, c, 2, key, a)
			c.Fuse(2, n)
			sends(t, c, 2, store(usualFront, 2, key, b))
			e := c.Deliver(2, 0)
			var stay []bool
			for k := range 8 {
				stay = append(stay, bits>>k&1 == 1)
			}
			loose := c.Image(2)
			tells(t, "Crash", c.Crash(2, stay), api.OK)
			got := c.Replica(2).Shelf().Get(key)
			old, newer := sibling.Same(got, setOf(a)), sibling.Same(got, setOf(b))
			if !old && !newer || e == api.OK && !newer {
				t.Fatalf("fuse %d, stay %v: %v, error %d", n, stay, got, e)
			}
			if e == api.ErrDown {
				met[newer]++
			}
			if bits == 255 && !bytes.Equal(loose, c.Image(2)) {
				t.Fatalf("fuse %d: not all stays", n)
			}
		}
	}
	if met[false] == 0 || met[true] == 0 {
		t.Errorf("what was under way is never there, or always: %v", met)
	}
}

// P26.1: Compare: the first message of a comparison is sent, with a new ask; each pair may.
func TestCompare(t *testing.T) {
	c, key, walk := usualOne(t)
	s := one(at(1, 1), "x")
	keeps(t, c, walk[0], key, s)
	keeps(t, c, walk[3], key, s) // it isn't its key
	var roots [4][4][32]byte
	d, _ := sibling.Digest(setOf(s))
	full := merkle.New()
	full.Set(key, d)
	for a := range 4 {
		for b := range 4 {
			roots[a][b] = merkle.New().Root()
			if a == walk[0] && b != walk[3] {
				roots[a][b] = full.Root()
			}
		}
	}
	begun := 0
	for a := range 4 {
		for b := range 4 {
			if a == b {
				tells(t, "with itself", c.Compare(a, b), api.ErrArg)
				continue
			}
			begun++
			tells(t, "Compare", c.Compare(a, b), api.OK)
			waits(t, "Compare", c, b, msg.Msg{Kind: msg.Nodes, From: a, Ask: otherAsk(begun), At: []int{0}, Digests: [][32]byte{roots[a][b]}})
			clear(c)
			_, e := c.Op(otherAsk(begun))
			tells(t, "Op of a comparison", e, api.ErrMiss)
		}
	}
	empty(t, "Compare", c)
	puts(t, c, key, s, 2)
}

// P26.1: a comparison's messages, to its end: both have what one had.
func TestCompared(t *testing.T) {
	c, key, walk := usualOne(t)
	a, b := one(at(1, 1), "a"), one(at(2, 1), "b")
	keeps(t, c, walk[0], key, a)
	keeps(t, c, walk[1], key, b)
	tells(t, "Compare", c.Compare(walk[0], walk[1]), api.OK)
	if n := c.Settle(); n != 7 { // five levels, rows of both
		t.Errorf("%d messages, want 7", n)
	}
	has(t, "Compare", c, walk[0], key, a, b)
	has(t, "Compare", c, walk[1], key, a, b)
	has(t, "Compare", c, walk[2], key)
	tells(t, "Compare", c.Compare(walk[1], walk[0]), api.OK)
	if n := c.Settle(); n != 3 {
		t.Errorf("%d messages, want 3", n)
	}
	empty(t, "Compare", c)
}

// P26.1: Hand: the first hint for a replica is sent, with a new ask; it is dropped when that is kept.
func TestHand(t *testing.T) {
	c, _, walk := usualOne(t)
	r, whom := walk[3], walk[0]
	s := one(at(1, 1), "x")
	k1, k2 := keyOf(9, 1), keyOf(9, 2)
	tells(t, "no hint", c.Hand(r, whom), api.ErrMiss)
	for i, key := range []api.Blind{k2, k1} {
		sends(t, c, r, hold(usualFront, 2*i, whom, key, s))
		delivers(t, "Hold", c, r, api.OK)
	}
	clear(c)
	tells(t, "no hint for it", c.Hand(r, walk[1]), api.ErrMiss)
	tells(t, "no hint there", c.Hand(walk[1], whom), api.ErrMiss)
	tells(t, "itself", c.Hand(r, r), api.ErrArg)
	empty(t, "no hint", c)
	tells(t, "Hand", c.Hand(r, whom), api.OK)
	waits(t, "Hand", c, whom, store(r, otherAsk(1), k1, s))
	tells(t, "Hand again", c.Hand(r, whom), api.OK)
	waits(t, "Hand again", c, whom, store(r, otherAsk(1), k1, s), store(r, otherAsk(2), k1, s))
	_, e := c.Op(otherAsk(1))
	tells(t, "Op of a delivery", e, api.ErrMiss)
	tells(t, "Lose", c.Lose(whom, 0), api.OK)
	holds(t, "it was lost", c, r, whom, k1, k2)
	c.Settle()
	has(t, "handed", c, whom, k1, s)
	holds(t, "handed", c, r, whom, k2)
	tells(t, "Hand", c.Hand(r, whom), api.OK)
	c.Settle()
	holds(t, "handed", c, r, whom)
	tells(t, "all were", c.Hand(r, whom), api.ErrMiss)
	gets(t, c, k1, 2)
}

// P26.1: a hint whose replica has no room stays, and may be handed again.
func TestHandFull(t *testing.T) {
	config := usual()
	config.Sectors = 24
	c := made(t, config)
	_, key, walk := usualOne(t)
	r, whom := walk[3], walk[0]
	s := one(at(1, 1), "x")
	sends(t, c, r, hold(usualFront, 2, whom, key, s))
	delivers(t, "Hold", c, r, api.OK)
	for n := 2000; len(c.Replica(whom).Shelf().Keys()) == 0; n-- { // as much as it has room for
		c.Replica(whom).Shelf().Merge(keyOf(1, 1), setOf(one(at(1, 1), string(make([]byte, n)))))
	}
	clear(c)
	tells(t, "Hand", c.Hand(r, whom), api.OK)
	delivers(t, "Store", c, whom, api.OK)
	waits(t, "no room", c, r, stored(whom, otherAsk(1), api.ErrFull))
	c.Settle()
	holds(t, "no room", c, r, whom, key)
	tells(t, "Hand", c.Hand(r, whom), api.OK)
	waits(t, "again", c, whom, store(r, otherAsk(2), key, s))
}

// P26.1: Compare and Hand: ErrArg, ErrMiss, ErrInbox, ErrDown of the one that begins, in this order: nothing is sent, nothing is under way, and no ask is used up.
func TestBeginErrors(t *testing.T) {
	c, key, walk := usualOne(t)
	r, whom := walk[3], walk[0]
	s := one(at(1, 1), "x")
	sends(t, c, r, hold(usualFront, 2, whom, key, s))
	delivers(t, "Hold", c, r, api.OK)
	clear(c)
	for _, bad := range []int{math.MinInt, -1, 4, 5, 1 << 32, math.MaxInt} {
		for _, pair := range [][2]int{{r, bad}, {bad, r}, {bad, bad}} {
			tells(t, "Compare", c.Compare(pair[0], pair[1]), api.ErrArg)
			tells(t, "Hand", c.Hand(pair[0], pair[1]), api.ErrArg)
		}
	}
	fill(t, c, whom)
	tells(t, "Compare", c.Compare(r, whom), api.ErrInbox)
	tells(t, "Hand", c.Hand(r, whom), api.ErrInbox)
	fill(t, c, walk[1])
	tells(t, "no hint for a full one", c.Hand(r, walk[1]), api.ErrMiss)
	clear(c)
	for n := range 10 { // nothing is under way
		sends(t, c, r, stored(whom, otherAsk(n), api.OK))
		delivers(t, "Stored", c, r, api.OK)
	}
	holds(t, "refused", c, r, whom, key)
	fill(t, c, r) // one's own box may be full
	tells(t, "Compare", c.Compare(r, walk[1]), api.OK)
	if n := c.Net().Len(walk[1]); n != 1 {
		t.Errorf("%d messages, want 1", n)
	}
	clear(c)
	blown(t, c, r)
	tells(t, "Compare", c.Compare(r, whom), api.ErrDown)
	tells(t, "Hand", c.Hand(r, whom), api.ErrDown)
	tells(t, "down, and no hint", c.Hand(r, walk[1]), api.ErrMiss)
	fill(t, c, whom)
	tells(t, "down, and no room", c.Compare(r, whom), api.ErrInbox)
	tells(t, "down, and no room", c.Hand(r, whom), api.ErrInbox)
	clear(c)
	tells(t, "itself", c.Compare(r, r), api.ErrArg)
	tells(t, "itself", c.Hand(r, r), api.ErrArg)
	tells(t, "nobody", c.Hand(r, 4), api.ErrArg)
	empty(t, "down", c)
	tells(t, "with who is down", c.Compare(whom, r), api.OK) // who begins doesn't know
	if n := c.Net().Len(r); n != 1 {
		t.Errorf("%d messages, want 1", n)
	}
	gets(t, c, key, 2)
	tells(t, "Crash", c.Crash(r, nil), api.OK)
	clear(c)
	tells(t, "Hand", c.Hand(r, whom), api.OK)
	waits(t, "opened anew", c, whom, store(r, otherAsk(3), key, s)) // two Compares were begun
}

// P26.1: a fuse alone isn't an ErrDown that was met.
func TestFuseNotMet(t *testing.T) {
	c, _, walk := usualOne(t)
	c.Fuse(walk[0], 1)
	tells(t, "Compare", c.Compare(walk[0], walk[1]), api.OK)
	tells(t, "Hand", c.Hand(walk[0], walk[1]), api.ErrMiss)
	if n := c.Settle(); n != 3 {
		t.Errorf("%d messages, want 3", n)
	}
}

// P26.1: Settle takes the first box that has a message, and its first one, and what they bring; refused ones count.
func TestSettle(t *testing.T) {
	c, key, _ := usualOne(t)
	if n := c.Settle(); n != 0 {
		t.Errorf("of nothing: %d", n)
	}
	a, b := one(at(1, 1), "a"), one(at(1, 2), "b", at(1, 1))
	sends(t, c, 1, store(0, 2, key, a))                     // its answer comes ahead of the next one of box 1
	sends(t, c, 1, store(0, 4, key, b))                     //
	tells(t, "Send", c.Net().Send(2, []byte("x")), api.OK)  // ErrDecode
	sends(t, c, 3, store(8, 6, key, a))                     // no box for its answer
	sends(t, c, usualFront, fetch(0, 8, key))               // ErrDecode
	tells(t, "Send", c.Net().Send(0, []byte("y")), api.OK)  // ErrDecode, first of all
	tells(t, "Send", c.Net().Send(0, []byte("yy")), api.OK) // the second one
	sends(t, c, 2, fetch(1, 10, key))                       // the answer is refused
	sends(t, c, 3, fetch(usualFront, 12, key))              // to the front
	if n := c.Settle(); n != 13 {
		t.Errorf("%d messages, want 13", n)
	}
	empty(t, "Settle", c)
	has(t, "Settle", c, 1, key, b)
	has(t, "Settle", c, 3, key, a)
	for box, want := range [][][]byte{
		{[]byte("y"), []byte("yy"), bytesOf(t, stored(1, 2, api.OK)), bytesOf(t, stored(1, 4, api.OK))},
		{bytesOf(t, store(0, 2, key, a)), bytesOf(t, store(0, 4, key, b)), bytesOf(t, fetched(2, 10, key))},
		{[]byte("x"), bytesOf(t, fetch(1, 10, key))},
		{bytesOf(t, store(8, 6, key, a)), bytesOf(t, fetch(usualFront, 12, key))},
		{bytesOf(t, fetch(0, 8, key)), bytesOf(t, fetched(3, 12, key, a))},
	} {
		if got := c.Net().Seen(box); !slices.EqualFunc(got, want, bytes.Equal) {
			t.Errorf("box %d has seen %x, want %x", box, got, want)
		}
	}
}

// P26.1: the order of Settle is to be seen: a low box's messages come ahead of all higher ones', those too that come in between.
func TestSettleOrder(t *testing.T) {
	c, key, _ := usualOne(t)
	a, b := one(at(1, 1), "a"), one(at(2, 1), "b")
	sends(t, c, 0, fetch(1, 2, key)) // Fetched to 1: refused
	sends(t, c, 2, store(usualFront, 2, key, a))
	sends(t, c, 2, fetch(3, 4, key))
	sends(t, c, 3, store(2, 6, key, b)) // Stored to 2
	sends(t, c, 2, store(usualFront, 8, key, b))
	c.Settle()
	want := [][]byte{bytesOf(t, store(2, 6, key, b)), bytesOf(t, fetched(2, 4, key, a))}
	if got := c.Net().Seen(3); !slices.EqualFunc(got, want, bytes.Equal) {
		t.Errorf("box 3 has seen %x, want %x", got, want)
	}
}

// P26.1: Settle leaves what waits for a replica that met ErrDown, also if it meets it on the way.
func TestSettleDown(t *testing.T) {
	c, key, walk := usualOne(t)
	s := one(at(1, 1), "x")
	blown(t, c, walk[1])
	puts(t, c, key, s, 2)
	sends(t, c, walk[1], fetch(usualFront, 4, key))
	if n := c.Settle(); n != 4 {
		t.Errorf("%d messages, want 4", n)
	}
	if n := c.Net().Len(walk[1]); n != 2 {
		t.Errorf("%d messages wait, want 2", n)
	}
	is(t, "two are up", c, 2, cluster.Op{Put: true, Key: key, Set: setOf(s), Done: true, Acks: sorted(walk[0], walk[2])})
	tells(t, "Crash", c.Crash(walk[1], nil), api.OK)
	if n := c.Settle(); n != 0 {
		t.Errorf("%d messages, want none", n)
	}
	c.Fuse(walk[0], 3)
	puts(t, c, keyOf(9, 2), s, 4)
	for range 3 {
		sends(t, c, walk[0], fetch(usualFront, 6, key))
	}
	if n := c.Settle(); n != 5 { // one to who is down: it meets it there; two to the others, and their answers
		t.Errorf("%d messages, want 5", n)
	}
	if n := c.Net().Len(walk[0]); n != 3 {
		t.Errorf("%d messages wait, want 3", n)
	}
	if n := c.Settle(); n != 0 {
		t.Errorf("%d messages, want none", n)
	}
}

func sorted(l ...int) []int {
	slices.Sort(l)
	return l
}

// P26.1: Settle with all boxes full: all that waits comes; answers that have no room are passed over.
func TestSettleFull(t *testing.T) {
	c := made(t, cluster.Config{Replicas: 8, Points: 2, N: 8, R: 8, W: 8, Wait: 9, Sectors: 60})
	for i := range 70 {
		c.Get(keyOf(byte(i), 1))
	}
	if n := c.Settle(); n != 8*64+64 { // the first one's answers fill the front's box, which comes last
		t.Errorf("%d messages, want 576", n)
	}
	for i := range 70 {
		want := cluster.Op{Key: keyOf(byte(i), 1)}
		if i < 64 {
			want.Acks = []int{0}
		}
		is(t, "full", c, 2+2*i, want)
	}
	for box := range 9 {
		if n := len(c.Net().Seen(box)); c.Net().Len(box) != 0 || n != 64 {
			t.Errorf("box %d has seen %d messages, or has some", box, n)
		}
	}
}
