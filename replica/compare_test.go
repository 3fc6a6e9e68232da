package replica_test

import (
	"bytes"
	"math/rand/v2"
	"slices"
	"testing"

	"casket/api"
	"casket/dot"
	"casket/merkle"
	"casket/msg"
	"casket/replica"
	"casket/ring"
	"casket/shelf"
	"casket/sibling"
)

// isShared: is a key of both? As the chapter tells it.
func isShared(c replica.Config, key api.Blind, other int) bool {
	r, _ := ring.New(c.Replicas, c.Points)
	l, _ := r.Prefer(key, c.N)
	return slices.Contains(l, c.Id) && slices.Contains(l, other)
}

// treeOf: a shelf's with another replica, as the chapter tells it.
func treeOf(c replica.Config, s *shelf.Shelf, other int) *merkle.Tree {
	t := merkle.New()
	for _, key := range s.Keys() {
		if isShared(c, key, other) {
			d, _ := sibling.Digest(s.Get(key))
			t.Set(key, d)
		}
	}
	return t
}

// nodesOf: the digests of nodes that a tree has.
func nodesOf(t *testing.T, tree *merkle.Tree, level int, at ...int) [][32]byte {
	t.Helper()
	var out [][32]byte
	for _, n := range at {
		d, e := tree.Node(level, n)
		if e != api.OK {
			t.Fatalf("there is no node %d of level %d", n, level)
		}
		out = append(out, d)
	}
	return out
}

// rowsOf: leaf by leaf the rows of a tree's keys.
func rowsOf(s *shelf.Shelf, tree *merkle.Tree, leaves ...int) []msg.Row {
	var out []msg.Row
	for _, leaf := range leaves {
		for _, key := range tree.Keys(leaf) {
			out = append(out, row(key, s.Get(key)...))
		}
	}
	return out
}

// firsts: keys with these first bytes, of which a pair has all.
func firsts(l ...byte) []api.Blind {
	var out []api.Blind
	for _, first := range l {
		out = append(out, keyOf(first, 1))
	}
	return out
}

// stocked: a replica of a pair that has these keys, each with a sibling of its own.
func stocked(t *testing.T, id int, keys ...api.Blind) *replica.Replica {
	t.Helper()
	_, r := formatted(t, 8192, pair(id))
	for i, key := range keys {
		store(t, r, key, one(at(1, i+1), "s"))
	}
	return r
}

// P24.1: Nodes, by hand: level by level what is unlike, down to the rows of the leaves.
func TestDescend(t *testing.T) {
	r := stocked(t, 0, keyOf(200, 2), keyOf(0, 5), keyOf(200, 1), keyOf(255, 1))
	tree := r.Tree(1)
	noughts := [32]byte{}
	for _, c := range []struct {
		level        int
		at, unlike   []int
		differs      func(at int) bool // where the other one has noughts; else it has what this one has
		nodes, leafs bool
	}{
		{0, []int{0}, []int{0, 1, 2, 3}, func(int) bool { return true }, true, false},
		{0, []int{0}, nil, func(int) bool { return false }, false, true},
		{0, nil, nil, nil, false, true},
		{1, []int{0, 1, 2, 3}, []int{0, 1, 2, 3, 12, 13, 14, 15}, func(int) bool { return true }, true, false},
		{1, []int{0, 1, 2, 3}, []int{12, 13, 14, 15}, func(at int) bool { return at == 3 }, true, false},
		{1, []int{3, 0}, []int{12, 13, 14, 15, 0, 1, 2, 3}, func(int) bool { return true }, true, false},
		{1, []int{3, 3}, []int{12, 13, 14, 15, 12, 13, 14, 15}, func(int) bool { return true }, true, false},
		{1, []int{1, 2}, nil, func(int) bool { return true }, false, true}, // they are noughts
		{2, []int{12, 0, 15}, []int{48, 49, 50, 51, 60, 61, 62, 63}, func(at int) bool { return at > 0 }, true, false},
		{3, []int{50, 63}, []int{200, 201, 202, 203, 252, 253, 254, 255}, func(int) bool { return true }, true, false},
		{3, []int{50, 63, 0}, []int{0, 1, 2, 3}, func(at int) bool { return at == 0 }, true, false},
		{4, []int{200, 201, 0, 255}, []int{200, 0, 255}, func(int) bool { return true }, false, true},
		{4, []int{255, 200}, []int{200}, func(at int) bool { return at == 200 }, false, true},
		{4, []int{200, 0, 200}, []int{200, 200}, func(at int) bool { return at == 200 }, false, true},
		{4, []int{7, 200}, nil, func(at int) bool { return at == 7 }, false, true},
		{4, nil, nil, nil, false, true},
	} {
		m := msg.Msg{Kind: msg.Nodes, From: 1, Ask: 6 + c.level, Level: c.level, At: c.at}
		for _, d := range nodesOf(t, tree, c.level, c.at...) {
			if c.differs(c.at[len(m.Digests)]) {
				d = noughts
			}
			m.Digests = append(m.Digests, d)
		}
		want := msg.Msg{Kind: msg.Rows, From: 0, Ask: m.Ask, At: c.unlike}
		if c.nodes {
			want = msg.Msg{Kind: msg.Nodes, From: 0, Ask: m.Ask, Level: c.level + 1, At: c.unlike, Digests: nodesOf(t, tree, c.level+1, c.unlike...)}
		} else {
			want.Rows = rowsOf(r.Shelf(), tree, c.unlike...)
		}
		answers(t, "Nodes", r, m, want)
	}
	m := msg.Msg{Kind: msg.Nodes, From: 1, Level: 4, At: []int{0, 200}, Digests: [][32]byte{{1}, {2}}}
	want := []msg.Row{row(keyOf(0, 5), one(at(1, 2), "s")), row(keyOf(200, 1), one(at(1, 3), "s")), row(keyOf(200, 2), one(at(1, 1), "s"))}
	answers(t, "by hand", r, m, msg.Msg{Kind: msg.Rows, At: []int{0, 200}, Rows: want})
}

// P24.1: the tree is the one with who told the nodes, the keys are of both.
func TestDescendByFrom(t *testing.T) {
	c := trio(0)
	_, r := formatted(t, 400, c)
	for i, key := range append(keysOf(t, c, 3, 0, 1), append(keysOf(t, c, 3, 0, 2), keysOf(t, c, 3, 1, 2)...)...) {
		store(t, r, key, one(at(1, i+1), "s"))
	}
	for from := 1; from < 3; from++ {
		tree := treeOf(c, r.Shelf(), from)
		silentRoot := msg.Msg{Kind: msg.Nodes, From: from, Ask: 2, At: []int{0}, Digests: [][32]byte{tree.Root()}}
		answers(t, "the same root", r, silentRoot, msg.Msg{Kind: msg.Rows, Ask: 2})
		other := msg.Msg{Kind: msg.Nodes, From: 3 - from, Ask: 2, At: []int{0}, Digests: [][32]byte{tree.Root()}}
		digests := nodesOf(t, treeOf(c, r.Shelf(), 3-from), 1, 0, 1, 2, 3)
		answers(t, "another one's root", r, other, msg.Msg{Kind: msg.Nodes, Ask: 2, Level: 1, At: []int{0, 1, 2, 3}, Digests: digests})
		var all []int
		for _, key := range keysOf(t, c, 3, 0, from) {
			all = append(all, int(key[0]))
		}
		leaves := msg.Msg{Kind: msg.Nodes, From: from, Level: 4, At: all, Digests: make([][32]byte, len(all))}
		answers(t, "leaves", r, leaves, msg.Msg{Kind: msg.Rows, At: all, Rows: rowsOf(r.Shelf(), tree, all...)})
	}
}

// P24.1: of Nodes: lists of two lengths, no such node, From that isn't another replica: ErrDecode.
func TestNodesErrDecode(t *testing.T) {
	r := stocked(t, 1, keyOf(7, 7))
	digests := make([][32]byte, 255)
	for level, count := range []int{1, 4, 16, 64, 256} {
		good := msg.Msg{Kind: msg.Nodes, From: 0, Ask: 2, Level: level, At: []int{count - 1, 0}, Digests: digests[:2]}
		if _, to, e := r.Handle(bytesOf(t, good)); to != 0 || e != api.OK {
			t.Errorf("level %d: for %d, error %d", level, to, e)
		}
		for _, from := range []int{1, 2, 3, 7, 8} {
			bad := good
			bad.From = from
			refuses(t, "not another one", r, bad, api.ErrDecode)
			bad.At, bad.Digests = nil, nil
			refuses(t, "not another one, of nothing", r, bad, api.ErrDecode)
		}
		for _, n := range []int{0, 1, 3, 255} {
			bad := good
			bad.Digests = digests[:n]
			refuses(t, "lengths", r, bad, api.ErrDecode)
		}
		bad := good
		bad.At = nil
		refuses(t, "lengths", r, bad, api.ErrDecode)
		if count > 255 {
			continue // a message can't tell it
		}
		for _, at := range [][]int{{count, 0}, {0, count}, {255, 0}} {
			bad := good
			bad.At = at
			refuses(t, "no such node", r, bad, api.ErrDecode)
		}
	}
}

// P24.1: of Rows: From that isn't another replica: ErrDecode, and nothing is merged.
func TestRowsErrDecode(t *testing.T) {
	for id := range 2 {
		_, r := formatted(t, 60, pair(id))
		for _, from := range []int{id, 2, 3, 7, 8} {
			for ask := range 2 {
				m := msg.Msg{Kind: msg.Rows, From: from, Ask: ask, Rows: []msg.Row{row(keyOf(1, 1), one(at(1, 1), "a"))}}
				refuses(t, "not another one", r, m, api.ErrDecode)
				m.Rows = nil
				refuses(t, "not another one, no rows", r, m, api.ErrDecode)
			}
		}
		has(t, "refused", r, keyOf(1, 1))
	}
}

// P24.1: Rows: what is both's is merged, others are passed over; of an even ask one's own rows are told, as they are behind that, of an odd one nothing.
func TestRows(t *testing.T) {
	c := trio(0)
	a, b := one(at(1, 1), "a"), one(at(2, 1), "b")
	k1, k2, k3 := keysOf(t, c, 2, 0, 1), keysOf(t, c, 1, 0, 2)[0], keysOf(t, c, 1, 1, 2)[0]
	leaf := func(k api.Blind) int { return int(k[0]) }
	for _, ask := range []int{0, 1, 2, 7, mostAsk - 2, mostAsk - 1} {
		_, r := formatted(t, 400, c)
		store(t, r, k1[0], a)
		store(t, r, k2, a)
		all := []int{leaf(k1[1]), leaf(k2), leaf(k1[0]), leaf(k3), leaf(k1[1])}
		m := msg.Msg{Kind: msg.Rows, From: 1, Ask: ask, At: all, Rows: []msg.Row{row(k1[0], b), row(k2, b), row(k3, b), row(k1[1], b), row(k1[0])}}
		if ask%2 == 0 {
			want := []msg.Row{row(k1[1], b), row(k1[0], a, b), row(k1[1], b)}
			answers(t, "even", r, m, msg.Msg{Kind: msg.Rows, Ask: ask + 1, At: all, Rows: want})
		} else {
			silent(t, "odd", r, m)
		}
		has(t, "merged", r, k1[0], a, b)
		has(t, "merged", r, k1[1], b)
		has(t, "of another pair", r, k2, a)
		has(t, "of others", r, k3)
	}
	_, r := formatted(t, 400, c)
	store(t, r, k1[0], a)
	answers(t, "of no leaves", r, msg.Msg{Kind: msg.Rows, From: 1, Ask: 4}, msg.Msg{Kind: msg.Rows, Ask: 5})
	answers(t, "of a leaf that isn't in the rows", r, msg.Msg{Kind: msg.Rows, From: 1, Ask: 4, At: []int{leaf(k1[0])}},
		msg.Msg{Kind: msg.Rows, Ask: 5, At: []int{leaf(k1[0])}, Rows: []msg.Row{row(k1[0], a)}})
	answers(t, "of rows without their leaf", r, msg.Msg{Kind: msg.Rows, From: 1, Ask: 4, Rows: []msg.Row{row(k1[1], b)}}, msg.Msg{Kind: msg.Rows, Ask: 5})
	has(t, "of rows without their leaf", r, k1[1], b)
	silent(t, "nothing", r, msg.Msg{Kind: msg.Rows, From: 2, Ask: 5})
}

// P24.1: the keys of a leaf rise in a row's list, and leaves come as they came.
func TestRowsRise(t *testing.T) {
	keys := []api.Blind{keyOf(9, 200), keyOf(9, 1), keyOf(8, 7), keyOf(9, 20)}
	r := stocked(t, 0, keys...)
	for _, m := range []msg.Msg{{Kind: msg.Rows, At: []int{9, 3, 8}}, {Kind: msg.Nodes, Level: 4, At: []int{9, 8}, Digests: make([][32]byte, 2)}} {
		m.From, m.Ask = 1, 2
		b, _, _ := r.Handle(bytesOf(t, m))
		got, e := msg.Read(b)
		want := []api.Blind{keyOf(9, 1), keyOf(9, 20), keyOf(9, 200), keyOf(8, 7)}
		var told []api.Blind
		for _, x := range got.Rows {
			told = append(told, x.Key)
		}
		if !slices.Equal(told, want) || e != api.OK {
			t.Errorf("kind %d: rows of %x", m.Kind, told)
		}
	}
}

// P24.1: a Merge's error ends Rows, and is told: what was merged ahead of it stays, what is behind it isn't merged.
func TestRowsEnd(t *testing.T) {
	a := one(at(1, 1), "a")
	for ask := range 2 {
		_, big := formatted(t, 2000, pair(0))
		store(t, big, keyOf(2, 1), many(1, 40)...)
		m := msg.Msg{Kind: msg.Rows, From: 1, Ask: ask, Rows: []msg.Row{row(keyOf(3, 1), a), row(keyOf(2, 1), many(2, 25)...), row(keyOf(1, 1), a)}}
		refuses(t, "ErrBig", big, m, api.ErrBig)
		has(t, "ahead", big, keyOf(3, 1), a)
		has(t, "refused", big, keyOf(2, 1), many(1, 40)...)
		has(t, "behind", big, keyOf(1, 1))

		_, full := formatted(t, 16, pair(0)) // 448 bytes of records: two siblings
		m.Rows = []msg.Row{row(keyOf(3, 1), a), row(keyOf(2, 1), a), row(keyOf(1, 1), a), row(keyOf(3, 1), one(at(1, 2), "", at(1, 1)))}
		refuses(t, "ErrFull", full, m, api.ErrFull)
		has(t, "ahead", full, keyOf(3, 1), a)
		has(t, "ahead", full, keyOf(2, 1), a)
		has(t, "behind", full, keyOf(1, 1))

		d, down := formatted(t, 60, pair(0))
		d.Fuse(9) // the first Merge takes seven: four sectors, a Sync, the head, a Sync
		refuses(t, "ErrDown", down, m, api.ErrDown)
		d.Crash(nil)
		down = opened(t, d, pair(0))
		has(t, "ahead", down, keyOf(3, 1), a)
		has(t, "behind", down, keyOf(2, 1))
	}
}

// P24.1: an answer that can't be written, of more than 255 rows or leaves, or of too great an ask: ErrBig; just 255 are told.
func TestErrBig(t *testing.T) {
	var keys []api.Blind
	for i := range 256 {
		keys = append(keys, keyOf(7, byte(i)))
	}
	r := stocked(t, 0, keys[:255]...)
	leaf := msg.Msg{Kind: msg.Nodes, From: 1, Ask: 2, Level: 4, At: []int{7}, Digests: [][32]byte{{}}}
	answers(t, "255 rows", r, leaf, msg.Msg{Kind: msg.Rows, Ask: 2, At: []int{7}, Rows: rowsOf(r.Shelf(), r.Tree(1), 7)})
	twice := leaf
	twice.At, twice.Digests = []int{7, 7}, make([][32]byte, 2)
	refuses(t, "a leaf's rows twice", r, twice, api.ErrBig)
	more := msg.Msg{Kind: msg.Rows, From: 1, Ask: 4, At: []int{7}, Rows: []msg.Row{row(keys[254], one(at(1, 255), "s"))}}
	answers(t, "255 rows", r, more, msg.Msg{Kind: msg.Rows, Ask: 5, At: []int{7}, Rows: rowsOf(r.Shelf(), r.Tree(1), 7)})
	more.Rows = []msg.Row{row(keys[255], one(at(1, 1), "a"))}
	refuses(t, "256 rows", r, more, api.ErrBig)
	has(t, "merged ahead", r, keys[255], one(at(1, 1), "a"))
	refuses(t, "256 rows", r, leaf, api.ErrBig)
	more.Ask = 5
	silent(t, "it isn't told", r, more)
	more.Ask, more.At = 4, nil
	answers(t, "no leaf is told", r, more, msg.Msg{Kind: msg.Rows, Ask: 5})

	great := msg.Msg{Kind: msg.Rows, From: 1, Ask: mostAsk, Rows: []msg.Row{row(keyOf(8, 8), one(at(1, 1), "a"))}}
	refuses(t, "an ask without one behind it", r, great, api.ErrBig)
	has(t, "merged ahead", r, keyOf(8, 8), one(at(1, 1), "a"))

	nodes := msg.Msg{Kind: msg.Nodes, From: 1, Ask: 2, Level: 3, Digests: make([][32]byte, 64)}
	var spread []api.Blind
	for i := range 64 {
		nodes.At = append(nodes.At, i)
		spread = append(spread, keyOf(byte(4*i), 1))
	}
	r = stocked(t, 0, spread[:63]...)
	var leaves []int
	for i := range 252 {
		leaves = append(leaves, i)
	}
	answers(t, "252 leaves", r, nodes, msg.Msg{Kind: msg.Nodes, Ask: 2, Level: 4, At: leaves, Digests: nodesOf(t, r.Tree(1), 4, leaves...)})
	store(t, r, spread[63], one(at(1, 1), "a"))
	refuses(t, "256 leaves", r, nodes, api.ErrBig)
}

// exchange: the messages of a comparison, from Begin on, till there is no answer; how many there were.
func exchange(t *testing.T, a, b *replica.Replica, from, to, ask int) int {
	t.Helper()
	all := map[int]*replica.Replica{from: a, to: b}
	m, e := a.Begin(to, ask)
	n := 0
	for who := to; len(m) > 0; n++ {
		if e != api.OK || n > 20 {
			t.Fatalf("message %d: error %d", n, e)
		}
		m, who, e = all[who].Handle(m)
	}
	if e != api.OK {
		t.Fatalf("message %d: error %d", n, e)
	}
	return n
}

// P24.3: by hand: how many messages come, and what they bring.
func TestExchange(t *testing.T) {
	a, b := one(at(1, 1), "a"), one(at(2, 1), "b")
	c := one(at(3, 1), "c", at(1, 1))
	one0, one1 := stocked(t, 0), stocked(t, 1)
	if n := exchange(t, one0, one1, 0, 1, 0); n != 3 { // the root, no rows, no rows
		t.Errorf("%d messages of empty ones, want 3", n)
	}
	store(t, one0, keyOf(1, 1), a, b)
	store(t, one1, keyOf(1, 1), c)
	store(t, one0, keyOf(1, 2), a)
	store(t, one1, keyOf(200, 1), b)
	if n := exchange(t, one1, one0, 1, 0, 2); n != 7 { // five levels, rows of both
		t.Errorf("%d messages, want 7", n)
	}
	for _, r := range []*replica.Replica{one0, one1} {
		has(t, "both", r, keyOf(1, 1), b, c)
		has(t, "both", r, keyOf(1, 2), a)
		has(t, "both", r, keyOf(200, 1), b)
	}
	if n := exchange(t, one1, one0, 1, 0, 4); n != 3 || one0.Tree(1).Root() != one1.Tree(0).Root() {
		t.Errorf("%d messages behind it, want 3, or the roots are unlike", n)
	}
}

// life: the writes of some keys, that come about one after the other, each where one of the replicas takes it.
type life struct {
	rng   *rand.Rand
	keys  []api.Blind
	sets  []map[api.Blind][]sibling.Sibling // what each replica has
	count map[api.Blind]map[int]int         // of each key and client
}

func newLife(rng *rand.Rand, keys []api.Blind, replicas int) *life {
	l := &life{rng: rng, keys: keys, count: map[api.Blind]map[int]int{}}
	for range replicas {
		l.sets = append(l.sets, map[api.Blind][]sibling.Sibling{})
	}
	for _, key := range keys {
		l.count[key] = map[int]int{}
	}
	return l
}

// write: one more, of who has seen what a replica has, or a part of it, or nothing; it is kept by some of them.
func (l *life) write(t *testing.T) {
	t.Helper()
	key := l.keys[l.rng.IntN(len(l.keys))]
	var past dot.Context
	for _, s := range l.sets[l.rng.IntN(len(l.sets))][key] {
		if l.rng.IntN(3) > 0 {
			seen, e := sibling.Seen(setOf(s))
			if e != api.OK {
				t.Fatal(e)
			}
			if past, e = dot.Join(past, seen); e != api.OK {
				t.Fatal(e)
			}
		}
	}
	client := 1 + l.rng.IntN(3)
	l.count[key][client]++
	s := sibling.Sibling{Dot: at(client, l.count[key][client]), Past: past, Body: []byte{byte(l.rng.IntN(256))}}
	for r := range l.sets {
		if l.rng.IntN(2) == 0 {
			l.sets[r][key], _ = sibling.Put(l.sets[r][key], s)
		}
	}
}

// P24.3: drawn: two replicas that exchange a comparison's messages have the same siblings of all keys that are both's, all that either had; others stay as they were.
func TestExchangeDrawn(t *testing.T) {
	for seed := range uint64(60) {
		rng := rand.New(rand.NewPCG(seed, 243))
		c := []replica.Config{pair(0), trio(0), {Replicas: 5, Points: 8, N: 3}, {Replicas: 8, Points: 2, N: 2}}[seed%4]
		var keys []api.Blind
		for range 30 {
			keys = append(keys, keyOf(byte(rng.IntN(40)*(1+rng.IntN(6))), byte(rng.IntN(3))))
		}
		l := newLife(rng, keys, 2)
		for range rng.IntN(120) {
			l.write(t)
		}
		ids := rng.Perm(c.Replicas)[:2]
		var r [2]*replica.Replica
		for i, id := range ids {
			c.Id = id
			_, r[i] = formatted(t, 4000, c)
			for _, key := range keys {
				store(t, r[i], key, l.sets[i][key]...)
			}
		}
		exchange(t, r[0], r[1], ids[0], ids[1], 2*rng.IntN(10))
		for _, key := range keys {
			want, e := sibling.Merge(l.sets[0][key], l.sets[1][key])
			for i, x := range r {
				if !isShared(c, key, ids[0]) {
					want = l.sets[i][key]
				}
				if got := x.Shelf().Get(key); e != api.OK || !sibling.Same(got, want) {
					t.Fatalf("seed %d: replica %d has %d siblings, want %d, or other ones", seed, ids[i], len(got), len(want))
				}
			}
		}
		if r[0].Tree(ids[1]).Root() != r[1].Tree(ids[0]).Root() {
			t.Fatalf("seed %d: the roots are unlike", seed)
		}
	}
}

// P24.1, P1: all bytes: each message cut, lengthened, and with each byte changed: an answer, or an error and none.
func TestAllBytes(t *testing.T) {
	_, r := formatted(t, 160, pair(0))
	for _, key := range firsts(1, 77, 200) {
		store(t, r, key, one(at(1, 1), "s"))
	}
	hold(t, r, 1, keyOf(4, 4), one(at(1, 1), "h"))
	whole := row(keyOf(77, 1), one(at(2, 1), "x", at(1, 3)))
	for _, m := range []msg.Msg{
		{Kind: msg.Store, Row: whole}, {Kind: msg.Stored}, {Kind: msg.Fetch}, {Kind: msg.Fetched, Row: whole}, {Kind: msg.Hold, Row: whole},
		{Kind: msg.Nodes, Level: 2, At: []int{0, 12}, Digests: make([][32]byte, 2)}, {Kind: msg.Nodes, Level: 4, At: []int{1}, Digests: make([][32]byte, 1)},
		{Kind: msg.Rows, At: []int{77, 1}, Rows: []msg.Row{whole, row(keyOf(3, 3))}},
	} {
		m.From, m.Ask = 1, 2
		r.Deliver(1, 2)
		b := bytesOf(t, m)
		for i := range b {
			for _, bit := range []byte{1, 2, 4, 8, 16, 32, 64, 128, 255} {
				bad := slices.Clone(b)
				bad[i] ^= bit
				handled(t, r, bad)
			}
			handled(t, r, b[:i])
		}
		handled(t, r, append(slices.Clone(b), 0))
	}
}

// handled: an answer for who is told, or an error, and none; the bytes stay as they were.
func handled(t *testing.T, r *replica.Replica, b []byte) {
	t.Helper()
	was := slices.Clone(b)
	m, wrong := msg.Read(b)
	out, to, e := r.Handle(b)
	switch {
	case !bytes.Equal(b, was):
		t.Fatalf("%x: it was changed", b)
	case wrong != api.OK && e != api.ErrDecode, !slices.Contains([]api.Errno{api.OK, api.ErrDecode, api.ErrBig, api.ErrFull}, e):
		t.Fatalf("%x: error %d", b, e)
	case (len(out) == 0) != (to == -1), e != api.OK && to != -1, to != -1 && to != m.From:
		t.Fatalf("%x: %d bytes for %d, error %d", b, len(out), to, e)
	}
	if a, e := msg.Read(out); to != -1 && (e != api.OK || a.From != idOf(t, r) || a.Ask != m.Ask && a.Ask != m.Ask+1) {
		t.Fatalf("%x: the answer is none, or another one's", b)
	}
}

// Rule 4: what is handed in isn't kept or changed, its spare room neither; answers are new memory.
func TestMemory(t *testing.T) {
	r := stocked(t, 0, keyOf(1, 1))
	a := one(at(2, 1), "abc", at(1, 7))
	for _, m := range []msg.Msg{
		{Kind: msg.Store, Row: row(keyOf(2, 1), a)}, {Kind: msg.Hold, For: 1, Row: row(keyOf(3, 1), a)}, {Kind: msg.Rows, Ask: 1, Rows: []msg.Row{row(keyOf(4, 1), a)}},
	} {
		m.From = 1
		b := append(bytesOf(t, m), bytes.Repeat([]byte{0xee}, 9)...)
		was := slices.Clone(b)
		out, _, e := r.Handle(b[:len(b)-9])
		if !bytes.Equal(b, was) || e != api.OK {
			t.Errorf("kind %d: error %d, or the bytes were changed", m.Kind, e)
		}
		spoil(b)
		spoil(out)
	}
	has(t, "kept", r, keyOf(2, 1), a)
	has(t, "kept", r, keyOf(4, 1), a)
	hints := r.Shelf().Hints(1)
	if len(hints) != 1 || !sibling.Same(hints[0].Set, setOf(a)) {
		t.Error("a hint is another one")
	}
	out, _ := r.Deliver(1, 2)
	spoil(out)
	delivers(t, r, 1, 4, keyOf(3, 1), a)
	silent(t, "delivered", r, msg.Msg{Kind: msg.Stored, From: 1, Ask: 2})
	holds(t, "delivered", r, 1)
	begun, _ := r.Begin(1, 2)
	again, _ := r.Begin(1, 2)
	spoil(begun)
	third, _ := r.Begin(1, 2)
	if !bytes.Equal(again, third) {
		t.Error("two answers share memory")
	}
}

// spoil writes over bytes, and their spare room.
func spoil(b []byte) {
	b = b[:cap(b)]
	for i := range b {
		b[i] ^= 0x55
	}
}
