package replica_test

import (
	"bytes"
	"math"
	"slices"
	"testing"

	"casket/api"
	"casket/disk"
	"casket/dot"
	"casket/log"
	"casket/merkle"
	"casket/msg"
	"casket/replica"
	"casket/ring"
	"casket/sibling"
)

const (
	mostBegun = 1 << 61 // the greatest ask of Begin and Deliver
	mostAsk   = 1 << 62 // of a message
	recordOf1 = 200     // bytes in the log of a record of one sibling, that has no body and has seen nothing
	noRecord  = 46      // bytes that the record of no siblings has no room in: it has one more
)

func at(client, number int) api.Dot { return api.Dot{Client: client, Number: number} }

// one: a write of some body, that has seen these dots.
func one(d api.Dot, body string, seen ...api.Dot) sibling.Sibling {
	var c dot.Context
	for _, s := range seen {
		c, _ = dot.Add(c, s)
	}
	return sibling.Sibling{Dot: d, Past: c, Body: []byte(body)}
}

func setOf(l ...sibling.Sibling) []sibling.Sibling { return l }

// many: siblings of one client that have seen nothing.
func many(client, n int) []sibling.Sibling {
	var out []sibling.Sibling
	for i := range n {
		out = append(out, one(at(client, i+1), "m"))
	}
	return out
}

// keyOf: a key that differs from others in its first byte, or in its last one.
func keyOf(first, last byte) api.Blind {
	var k api.Blind
	k[0], k[31] = first, last
	return k
}

// written: a set's bytes.
func written(l []sibling.Sibling) []byte {
	b, _ := sibling.Write(l)
	return b
}

func row(key api.Blind, l ...sibling.Sibling) msg.Row { return msg.Row{Key: key, Set: written(l)} }

// pair: the two replicas of most tests, all keys are both's.
func pair(id int) replica.Config { return replica.Config{Id: id, Replicas: 2, Points: 3, N: 2} }

// trio: a replica of three, two of which have each key.
func trio(id int) replica.Config { return replica.Config{Id: id, Replicas: 3, Points: 4, N: 2} }

// keysOf: so many keys, rising, whose replicas are just these.
func keysOf(t *testing.T, c replica.Config, count int, who ...int) []api.Blind {
	t.Helper()
	r, e := ring.New(c.Replicas, c.Points)
	if e != api.OK {
		t.Fatal(e)
	}
	var out []api.Blind
	for first := range 256 {
		l, _ := r.Prefer(keyOf(byte(first), 1), c.N)
		slices.Sort(l)
		if slices.Equal(l, who) && len(out) < count {
			out = append(out, keyOf(byte(first), 1))
		}
	}
	if len(out) < count {
		t.Fatalf("there are only %d keys of %v", len(out), who)
	}
	return out
}

func newDisk(t *testing.T, n int) *disk.Disk {
	t.Helper()
	d, e := disk.New(n)
	if e != api.OK {
		t.Fatalf("disk.New(%d): error %d", n, e)
	}
	return d
}

func formatted(t *testing.T, sectors int, c replica.Config) (*disk.Disk, *replica.Replica) {
	t.Helper()
	d := newDisk(t, sectors)
	r, e := replica.Format(d, c)
	if r == nil || e != api.OK {
		t.Fatalf("Format: error %d", e)
	}
	return d, r
}

func opened(t *testing.T, d *disk.Disk, c replica.Config) *replica.Replica {
	t.Helper()
	r, e := replica.Open(d, c)
	if r == nil || e != api.OK {
		t.Fatalf("Open: error %d", e)
	}
	return r
}

// bytesOf: a message's bytes.
func bytesOf(t *testing.T, m msg.Msg) []byte {
	t.Helper()
	b, e := msg.Write(m)
	if e != api.OK {
		t.Fatalf("a message of kind %d can't be written", m.Kind)
	}
	return b
}

// answers: a message comes to just this one, for who sent it.
func answers(t *testing.T, what string, r *replica.Replica, m, want msg.Msg) {
	t.Helper()
	b, to, e := r.Handle(bytesOf(t, m))
	got, _ := msg.Read(b)
	if !bytes.Equal(b, bytesOf(t, want)) || to != m.From || e != api.OK {
		t.Errorf("%s: Handle: %+v for %d, error %d, want %+v for %d", what, got, to, e, want, m.From)
	}
}

// silent: a message is taken, and has no answer.
func silent(t *testing.T, what string, r *replica.Replica, m msg.Msg) {
	t.Helper()
	refuses(t, what, r, m, api.OK)
}

// refuses: a message comes to this error, and to no answer.
func refuses(t *testing.T, what string, r *replica.Replica, m msg.Msg, want api.Errno) {
	t.Helper()
	if b, to, e := r.Handle(bytesOf(t, m)); len(b) != 0 || to != -1 || e != want {
		t.Errorf("%s: Handle: %d bytes for %d, error %d, want none, -1, error %d", what, len(b), to, e, want)
	}
}

// keeps: a message of siblings is kept without an error.
func keeps(t *testing.T, r *replica.Replica, m msg.Msg) {
	t.Helper()
	answers(t, "keep", r, m, msg.Msg{Kind: msg.Stored, From: idOf(t, r), Ask: m.Ask})
}

// idOf: a replica's number, as it tells it.
func idOf(t *testing.T, r *replica.Replica) int {
	t.Helper()
	b, _, _ := r.Handle(bytesOf(t, msg.Msg{Kind: msg.Fetch}))
	m, e := msg.Read(b)
	if e != api.OK {
		t.Fatal("a Fetch has no answer")
	}
	return m.From
}

// store: siblings of a key, from who asks for clients.
func store(t *testing.T, r *replica.Replica, key api.Blind, l ...sibling.Sibling) {
	t.Helper()
	keeps(t, r, msg.Msg{Kind: msg.Store, From: 8, Ask: 2, Row: row(key, l...)})
}

// hold: a hint of a key.
func hold(t *testing.T, r *replica.Replica, to int, key api.Blind, l ...sibling.Sibling) {
	t.Helper()
	keeps(t, r, msg.Msg{Kind: msg.Hold, From: 8, Ask: 2, For: to, Row: row(key, l...)})
}

// has: a replica's key has just these siblings.
func has(t *testing.T, what string, r *replica.Replica, key api.Blind, want ...sibling.Sibling) {
	t.Helper()
	if got := r.Shelf().Get(key); !sibling.Same(got, want) {
		t.Errorf("%s: %d siblings, want %d, or other ones", what, len(got), len(want))
	}
}

// holds: the hints for a replica are just of these keys.
func holds(t *testing.T, what string, r *replica.Replica, to int, want ...api.Blind) {
	t.Helper()
	var got []api.Blind
	for _, h := range r.Shelf().Hints(to) {
		got = append(got, h.Key)
	}
	if !slices.Equal(got, want) {
		t.Errorf("%s: hints of %x, want %x", what, got, want)
	}
}

// P24.1: the chapter's example.
func TestExample(t *testing.T) {
	_, r := formatted(t, 40, pair(1))
	key, l := keyOf(9, 9), setOf(one(at(1, 1), "x"), one(at(2, 1), "y"))
	answers(t, "Store", r, msg.Msg{Kind: msg.Store, From: 2, Ask: 6, Row: row(key, l...)}, msg.Msg{Kind: msg.Stored, From: 1, Ask: 6})
	answers(t, "Fetch", r, msg.Msg{Kind: msg.Fetch, From: 2, Ask: 8, Row: msg.Row{Key: key}}, msg.Msg{Kind: msg.Fetched, From: 1, Ask: 8, Row: row(key, l...)})
}

// P24.1: which configs there are. Of others: ErrArg, and the disk isn't touched.
func TestConfigs(t *testing.T) {
	for _, c := range []replica.Config{{0, 1, 1, 1}, {0, 1, 64, 1}, {7, 8, 1, 8}, {7, 8, 64, 1}, {0, 8, 64, 8}, {2, 3, 4, 3}} {
		d, _ := formatted(t, 20, c)
		opened(t, d, c)
	}
	d, r := formatted(t, 20, pair(0))
	store(t, r, keyOf(1, 1), one(at(1, 1), "x"))
	was := d.Image()
	for _, c := range []replica.Config{
		{}, {-1, 2, 3, 2}, {2, 2, 3, 2}, {3, 2, 3, 2}, {math.MinInt, 2, 3, 2}, {math.MaxInt, 2, 3, 2}, {1 << 32, 2, 3, 2},
		{0, 0, 3, 1}, {0, 0, 3, 0}, {0, -1, 3, 1}, {0, 9, 3, 2}, {0, math.MaxInt, 3, 2}, {0, math.MinInt, 3, 2},
		{0, 2, 0, 2}, {0, 2, -1, 2}, {0, 2, 65, 2}, {0, 2, math.MaxInt, 2}, {0, 2, math.MinInt, 2},
		{0, 2, 3, 0}, {0, 2, 3, -1}, {0, 2, 3, 3}, {0, 2, 3, math.MaxInt}, {0, 2, 3, math.MinInt},
	} {
		for i, make := range []func(*disk.Disk, replica.Config) (*replica.Replica, api.Errno){replica.Format, replica.Open} {
			for _, d := range []*disk.Disk{d, nil, newDisk(t, 20)} { // ErrArg is looked for ahead of what Open misses
				if r, e := make(d, c); r != nil || e != api.ErrArg {
					t.Errorf("%d: %+v: error %d, or a replica, want none, ErrArg", i, c, e)
				}
			}
		}
	}
	if !bytes.Equal(d.Image(), was) || d.Loose() != 0 {
		t.Error("what is no config changed a disk")
	}
}

// P24.1: Format makes an empty one, Open one that has all that was kept; their errors are the shelf's.
func TestFormatOpen(t *testing.T) {
	d, r := formatted(t, 60, pair(0))
	store(t, r, keyOf(1, 1), one(at(1, 1), "x"))
	hold(t, r, 1, keyOf(2, 1), one(at(1, 1), "y"))
	r = opened(t, d, pair(1))
	has(t, "opened", r, keyOf(1, 1), one(at(1, 1), "x"))
	holds(t, "opened", r, 1, keyOf(2, 1))
	if id := idOf(t, r); id != 1 {
		t.Errorf("it is %d, want 1", id)
	}
	r, e := replica.Format(d, pair(0))
	if e != api.OK || len(r.Shelf().Keys()) != 0 || len(r.Shelf().Hints(1)) != 0 {
		t.Errorf("formatted again: error %d, or something is left", e)
	}
	off, strange := newDisk(t, 20), newDisk(t, 20)
	l, _ := log.Format(strange)
	l.Append([]byte("strange"))
	replica.Format(off, pair(0))
	off.Fuse(1)
	off.Sync()
	for _, c := range []struct {
		what             string
		d                *disk.Disk
		formatted, opens api.Errno
	}{
		{"nil", nil, api.ErrArg, api.ErrArg},
		{"small", newDisk(t, 3), api.ErrArg, api.ErrArg},
		{"without power", off, api.ErrDown, api.ErrDown},
		{"strange", strange, api.OK, api.ErrDecode},
		{"noughts", newDisk(t, 4), api.OK, api.ErrMiss},
	} {
		if r, e := replica.Open(c.d, pair(0)); r != nil || e != c.opens {
			t.Errorf("%s: Open: error %d, or a replica, want none, error %d", c.what, e, c.opens)
		}
		if r, e := replica.Format(c.d, pair(0)); (r == nil) != (e != api.OK) || e != c.formatted {
			t.Errorf("%s: Format: error %d, want %d", c.what, e, c.formatted)
		}
	}
}

// P24.1: a nil replica, and one that neither Format nor Open made: none, -1, ErrArg; nil.
func TestNone(t *testing.T) {
	for _, r := range []*replica.Replica{nil, {}} {
		for _, b := range [][]byte{nil, {9}, bytesOf(t, msg.Msg{Kind: msg.Fetch}), bytesOf(t, msg.Msg{Kind: msg.Store, Row: row(keyOf(1, 1))})} {
			if b, to, e := r.Handle(b); len(b) != 0 || to != -1 || e != api.ErrArg {
				t.Errorf("Handle: %d bytes for %d, error %d", len(b), to, e)
			}
		}
		for other := -1; other < 3; other++ {
			if b, e := r.Begin(other, 2); len(b) != 0 || e != api.ErrArg {
				t.Errorf("Begin: %d bytes, error %d", len(b), e)
			}
			if b, e := r.Deliver(other, 2); len(b) != 0 || e != api.ErrArg {
				t.Errorf("Deliver: %d bytes, error %d", len(b), e)
			}
			if r.Tree(other) != nil {
				t.Error("it has a tree")
			}
		}
		if r.Shelf() != nil {
			t.Error("it has a shelf")
		}
	}
}

// P24.1: Store: siblings are merged with those of the key, whosever the key is; the answer is for who sent it, of its ask.
func TestStore(t *testing.T) {
	c := trio(0)
	_, r := formatted(t, 400, c)
	a, b := one(at(1, 1), "a"), one(at(2, 1), "b")
	seen := one(at(3, 1), "c", at(1, 1), at(2, 1))
	for _, key := range []api.Blind{keysOf(t, c, 1, 0, 1)[0], keysOf(t, c, 1, 1, 2)[0]} {
		for i, x := range []struct {
			l, want []sibling.Sibling
		}{{setOf(b), setOf(b)}, {nil, setOf(b)}, {setOf(a), setOf(a, b)}, {setOf(b), setOf(a, b)}, {setOf(seen), setOf(seen)}, {setOf(a, b), setOf(seen)}} {
			for _, ask := range []int{0, 1, 2 + i, mostAsk} {
				from := (i + ask) % 9
				m := msg.Msg{Kind: msg.Store, From: from, Ask: ask, Row: row(key, x.l...)}
				answers(t, "Store", r, m, msg.Msg{Kind: msg.Stored, From: 0, Ask: ask})
				has(t, "Store", r, key, x.want...)
			}
		}
	}
	if n := len(r.Shelf().Keys()); n != 2 {
		t.Errorf("%d keys, want 2", n)
	}
}

// P24.1: Store and Hold: what the shelf refuses is told in the answer, and changes no siblings.
func TestNotStored(t *testing.T) {
	_, big := formatted(t, 2000, pair(0))
	key := keyOf(1, 1)
	store(t, big, key, many(1, 40)...)
	hold(t, big, 1, key, many(1, 40)...)
	_, full := formatted(t, 10, pair(0)) // 256 bytes of records
	store(t, full, key, one(at(1, 1), string(make([]byte, 256-recordOf1))))
	for _, c := range []struct {
		what string
		r    *replica.Replica
		kind int
		l    []sibling.Sibling
		want api.Errno
	}{
		{"more than 64", big, msg.Store, many(2, 25), api.ErrBig},
		{"more than 64", big, msg.Hold, many(2, 25), api.ErrBig},
		{"no siblings for another one", big, msg.Hold, nil, api.ErrArg},
		{"no room", full, msg.Store, setOf(one(at(2, 1), "")), api.ErrFull},
		{"no room", full, msg.Hold, setOf(one(at(2, 1), "")), api.ErrFull},
	} {
		was, hints := c.r.Shelf().Get(key), c.r.Shelf().Hints(1)
		m := msg.Msg{Kind: c.kind, From: 5, Ask: 9, For: 1, Row: row(key, c.l...)}
		answers(t, c.what, c.r, m, msg.Msg{Kind: msg.Stored, From: 0, Ask: 9, Err: c.want})
		has(t, c.what, c.r, key, was...)
		if now := c.r.Shelf().Hints(1); len(now) != len(hints) || len(now) > 0 && !sibling.Same(now[0].Set, hints[0].Set) {
			t.Errorf("%s: the hints are other ones", c.what)
		}
	}
	store(t, big, key, many(2, 24)...) // 64 are let in
}

// P24.1: Hold: hints of each replica and key; the keys' own siblings stay as they are.
func TestHold(t *testing.T) {
	_, r := formatted(t, 2000, trio(1))
	a, b := one(at(1, 1), "a"), one(at(2, 1), "b")
	for to := range 8 {
		key := keyOf(byte(to), 7)
		for _, l := range [][]sibling.Sibling{setOf(b), setOf(a), setOf(a, b)} {
			m := msg.Msg{Kind: msg.Hold, From: to, Ask: 4 + to, For: to, Row: row(key, l...)}
			answers(t, "Hold", r, m, msg.Msg{Kind: msg.Stored, From: 1, Ask: 4 + to})
		}
		holds(t, "Hold", r, to, key)
		if got := r.Shelf().Hints(to)[0]; got.For != to || !sibling.Same(got.Set, setOf(a, b)) {
			t.Errorf("the hint is for %d, of %d siblings", got.For, len(got.Set))
		}
		has(t, "Hold", r, key)
	}
}

// P24.1: Fetch: of each key, also of one without siblings, and of another one's.
func TestFetch(t *testing.T) {
	c := trio(2)
	_, r := formatted(t, 400, c)
	other := keysOf(t, c, 1, 0, 1)[0]
	store(t, r, other, one(at(1, 1), "a"))
	hold(t, r, 0, keyOf(3, 3), one(at(1, 1), "h"))
	for from := range 9 {
		for _, key := range []api.Blind{other, keyOf(3, 3), {}, keyOf(255, 255)} {
			m := msg.Msg{Kind: msg.Fetch, From: from, Ask: mostAsk - from, Row: msg.Row{Key: key}}
			answers(t, "Fetch", r, m, msg.Msg{Kind: msg.Fetched, From: 2, Ask: mostAsk - from, Row: row(key, r.Shelf().Get(key)...)})
		}
	}
	if string(row(keyOf(3, 3)).Set) != "\x00" {
		t.Error("no siblings have other bytes")
	}
}

// P24.1: bytes that are no message; Fetched; siblings that aren't a set's bytes: ErrDecode, and nothing is changed.
func TestErrDecode(t *testing.T) {
	d, r := formatted(t, 400, pair(0))
	key := keyOf(1, 1)
	store(t, r, key, one(at(1, 1), "a"))
	was := d.Image()
	refuses(t, "Fetched", r, msg.Msg{Kind: msg.Fetched, From: 1, Row: row(key)}, api.ErrDecode)
	refuses(t, "Fetched", r, msg.Msg{Kind: msg.Fetched, From: 1, Row: row(key, one(at(2, 1), "b"))}, api.ErrDecode)
	whole := written(setOf(one(at(2, 1), "b")))
	falling := append([]byte{2}, append(whole[1:], whole[1:]...)...)
	for _, set := range [][]byte{nil, {1}, {65}, {0, 0}, whole[:len(whole)-1], append(slices.Clone(whole), 0), falling} {
		bad := msg.Row{Key: key, Set: set}
		good := row(key, one(at(3, 1), "c"))
		for _, from := range []int{0, 1, 2, 8} {
			refuses(t, "Store", r, msg.Msg{Kind: msg.Store, From: from, Row: bad}, api.ErrDecode)
			refuses(t, "Hold", r, msg.Msg{Kind: msg.Hold, From: from, For: 1, Row: bad}, api.ErrDecode)
			refuses(t, "Rows", r, msg.Msg{Kind: msg.Rows, From: from, Rows: []msg.Row{good, good, bad}}, api.ErrDecode)
			refuses(t, "Rows", r, msg.Msg{Kind: msg.Rows, From: from, Ask: 1, Rows: []msg.Row{bad, good}}, api.ErrDecode)
		}
	}
	for _, b := range [][]byte{nil, {}, {0}, {9}, make([]byte, 10), make([]byte, 100)} {
		if b, to, e := r.Handle(b); len(b) != 0 || to != -1 || e != api.ErrDecode {
			t.Errorf("Handle: %d bytes for %d, error %d, want none, -1, ErrDecode", len(b), to, e)
		}
	}
	if !bytes.Equal(d.Image(), was) || d.Loose() != 0 {
		t.Error("what is refused changed the disk")
	}
}

// P24.1: also a row of a key that isn't both's is read ahead of the first Merge.
func TestStrangeRowIsRead(t *testing.T) {
	c := trio(0)
	_, r := formatted(t, 400, c)
	ours, theirs := keysOf(t, c, 1, 0, 1)[0], keysOf(t, c, 1, 1, 2)[0]
	rows := []msg.Row{row(ours, one(at(1, 1), "a")), {Key: theirs, Set: []byte{1}}}
	refuses(t, "Rows", r, msg.Msg{Kind: msg.Rows, From: 1, Rows: rows}, api.ErrDecode)
	has(t, "Rows", r, ours)
}

// begins: what Begin, and Deliver, tell of these arguments.
func begins(t *testing.T, r *replica.Replica, other, ask int, begun, delivered api.Errno) {
	t.Helper()
	if b, e := r.Begin(other, ask); (len(b) == 0) != (e != api.OK) || e != begun {
		t.Errorf("Begin(%d, %d): %d bytes, error %d, want error %d", other, ask, len(b), e, begun)
	}
	if b, e := r.Deliver(other, ask); (len(b) == 0) != (e != api.OK) || e != delivered {
		t.Errorf("Deliver(%d, %d): %d bytes, error %d, want error %d", other, ask, len(b), e, delivered)
	}
}

// P24.1: Begin and Deliver: whom, and of which asks; ErrArg is looked for ahead of ErrMiss.
func TestBeginBounds(t *testing.T) {
	_, r := formatted(t, 400, trio(1))
	hold(t, r, 0, keyOf(1, 1), one(at(1, 1), "a"))
	hold(t, r, 1, keyOf(1, 1), one(at(1, 1), "a")) // of itself, and of one that isn't: nobody is told these
	hold(t, r, 3, keyOf(1, 1), one(at(1, 1), "a"))
	for _, ask := range []int{0, 2, 4, 1 << 32, mostBegun - 2, mostBegun} {
		begins(t, r, 0, ask, api.OK, api.OK)
		begins(t, r, 2, ask, api.OK, api.ErrMiss)
	}
	for _, ask := range []int{math.MinInt, -2, -1, 1, 3, mostBegun - 1, mostBegun + 1, mostBegun + 2, mostAsk, math.MaxInt} {
		begins(t, r, 0, ask, api.ErrArg, api.ErrArg)
		begins(t, r, 2, ask, api.ErrArg, api.ErrArg)
	}
	for _, other := range []int{math.MinInt, -1, 1, 3, 4, 8, 1 << 32, math.MaxInt} {
		begins(t, r, other, 2, api.ErrArg, api.ErrArg)
	}
}

// P24.1: Begin: Nodes of level 0: At 0, the root of the tree with the other one, which has the keys of both alone.
func TestBegin(t *testing.T) {
	c := trio(0)
	_, r := formatted(t, 400, c)
	for i, key := range append(keysOf(t, c, 2, 0, 1), append(keysOf(t, c, 2, 0, 2), keysOf(t, c, 2, 1, 2)...)...) {
		store(t, r, key, one(at(1, i+1), "a"))
	}
	for other := 1; other < 3; other++ {
		want := merkle.New()
		for _, key := range keysOf(t, c, 2, 0, other) {
			d, _ := sibling.Digest(r.Shelf().Get(key))
			want.Set(key, d)
		}
		b, e := r.Begin(other, 6)
		m := msg.Msg{Kind: msg.Nodes, From: 0, Ask: 6, Level: 0, At: []int{0}, Digests: [][32]byte{want.Root()}}
		if !bytes.Equal(b, bytesOf(t, m)) || e != api.OK {
			t.Errorf("Begin(%d, 6): error %d, or another message", other, e)
		}
		tree := r.Tree(other)
		for leaf := range 256 {
			if !slices.Equal(tree.Keys(leaf), want.Keys(leaf)) {
				t.Errorf("Tree(%d): other keys of leaf %d", other, leaf)
			}
		}
		if tree.Root() != want.Root() {
			t.Errorf("Tree(%d): another root", other)
		}
	}
	for _, other := range []int{math.MinInt, -1, 0, 3, 8, math.MaxInt} {
		if r.Tree(other) != nil {
			t.Errorf("Tree(%d): there is one", other)
		}
	}
	_, r = formatted(t, 20, c)
	b, _ := r.Begin(1, 0)
	if want := bytesOf(t, msg.Msg{Kind: msg.Nodes, At: []int{0}, Digests: [][32]byte{{}}}); !bytes.Equal(b, want) {
		t.Error("Begin of an empty one tells another message")
	}
}

// P24.1: a tree is one's own: what is done to it changes no replica.
func TestTreeIsNew(t *testing.T) {
	_, r := formatted(t, 60, pair(0))
	store(t, r, keyOf(1, 1), one(at(1, 1), "a"))
	tree, was := r.Tree(1), r.Tree(1).Root()
	tree.Set(keyOf(2, 2), [32]byte{1})
	if r.Tree(1).Root() != was || tree.Root() == was {
		t.Error("a tree that was told is kept")
	}
	store(t, r, keyOf(3, 3), one(at(1, 1), "a"))
	if r.Tree(1).Root() == was || len(tree.Keys(3)) != 0 {
		t.Error("a tree doesn't tell what is kept when it is asked for")
	}
}

// delivers: Deliver tells a Store of this key and these siblings.
func delivers(t *testing.T, r *replica.Replica, other, ask int, key api.Blind, l ...sibling.Sibling) {
	t.Helper()
	want := bytesOf(t, msg.Msg{Kind: msg.Store, From: idOf(t, r), Ask: ask, Row: row(key, l...)})
	if b, e := r.Deliver(other, ask); !bytes.Equal(b, want) || e != api.OK {
		t.Errorf("Deliver(%d, %d): error %d, or another message", other, ask, e)
	}
}

// P24.1: Deliver tells the first hint for a replica; a Stored of it, of that ask, without an error, and of nobody else, drops it.
func TestDeliver(t *testing.T) {
	_, r := formatted(t, 400, trio(0))
	a, b := one(at(1, 1), "a"), one(at(2, 1), "b")
	for _, to := range []int{1, 2} {
		hold(t, r, to, keyOf(5, 1), b)
		hold(t, r, to, keyOf(4, 9), a, b)
	}
	delivers(t, r, 1, 2, keyOf(4, 9), a, b)
	delivers(t, r, 1, 4, keyOf(4, 9), a, b)
	delivers(t, r, 2, 6, keyOf(4, 9), a, b)
	for _, m := range []msg.Msg{{From: 1, Ask: 0}, {From: 1, Ask: 3}, {From: 1, Ask: 6}, {From: 2, Ask: 2}, {From: 0, Ask: 2}, {From: 3, Ask: 2}, {From: 8, Ask: 2}} {
		m.Kind = msg.Stored
		silent(t, "of another one, or of another ask", r, m)
	}
	holds(t, "not told", r, 1, keyOf(4, 9), keyOf(5, 1))
	holds(t, "not told", r, 2, keyOf(4, 9), keyOf(5, 1))
	silent(t, "told", r, msg.Msg{Kind: msg.Stored, From: 1, Ask: 2})
	holds(t, "told", r, 1, keyOf(5, 1))
	silent(t, "told of a hint that is gone", r, msg.Msg{Kind: msg.Stored, From: 1, Ask: 4})
	hold(t, r, 1, keyOf(4, 9), a, b)
	for _, ask := range []int{2, 4} {
		silent(t, "told again", r, msg.Msg{Kind: msg.Stored, From: 1, Ask: ask})
	}
	holds(t, "the same hint anew, no delivery of it is under way", r, 1, keyOf(4, 9), keyOf(5, 1))
	silent(t, "told", r, msg.Msg{Kind: msg.Stored, From: 2, Ask: 6})
	holds(t, "told", r, 2, keyOf(5, 1))
	has(t, "a hint is no sibling of its own", r, keyOf(4, 9))
}

// P24.1: a Stored with an error: the delivery isn't under way any more, its hint stays.
func TestDeliveredInVain(t *testing.T) {
	for _, err := range []api.Errno{1, api.ErrFull, 255} {
		_, r := formatted(t, 400, pair(0))
		hold(t, r, 1, keyOf(4, 9), one(at(1, 1), "a"))
		delivers(t, r, 1, 2, keyOf(4, 9), one(at(1, 1), "a"))
		silent(t, "in vain", r, msg.Msg{Kind: msg.Stored, From: 1, Ask: 2, Err: err})
		silent(t, "behind it", r, msg.Msg{Kind: msg.Stored, From: 1, Ask: 2})
		holds(t, "in vain", r, 1, keyOf(4, 9))
		delivers(t, r, 1, 2, keyOf(4, 9), one(at(1, 1), "a"))
		silent(t, "delivered", r, msg.Msg{Kind: msg.Stored, From: 1, Ask: 2})
		holds(t, "delivered", r, 1)
	}
}

// P24.1: a hint that has become more meanwhile stays, and the delivery isn't under way any more.
func TestDeliveredLess(t *testing.T) {
	_, r := formatted(t, 400, pair(0))
	a, b := one(at(1, 1), "a"), one(at(2, 1), "b")
	hold(t, r, 1, keyOf(4, 9), a)
	delivers(t, r, 1, 2, keyOf(4, 9), a)
	hold(t, r, 1, keyOf(4, 9), b)
	silent(t, "less", r, msg.Msg{Kind: msg.Stored, From: 1, Ask: 2})
	holds(t, "less", r, 1, keyOf(4, 9))
	delivers(t, r, 1, 4, keyOf(4, 9), a, b)
	silent(t, "of the elder ask", r, msg.Msg{Kind: msg.Stored, From: 1, Ask: 2})
	holds(t, "of the elder ask", r, 1, keyOf(4, 9))
	silent(t, "all", r, msg.Msg{Kind: msg.Stored, From: 1, Ask: 4})
	holds(t, "all", r, 1)
}

// P24.1: of one ask the last delivery alone is under way.
func TestDeliverOfOneAsk(t *testing.T) {
	_, r := formatted(t, 400, trio(0))
	a := one(at(1, 1), "a")
	hold(t, r, 1, keyOf(4, 9), a)
	hold(t, r, 2, keyOf(5, 9), a)
	delivers(t, r, 1, 2, keyOf(4, 9), a)
	delivers(t, r, 2, 2, keyOf(5, 9), a)
	silent(t, "the first one's", r, msg.Msg{Kind: msg.Stored, From: 1, Ask: 2})
	holds(t, "the first one's", r, 1, keyOf(4, 9))
	silent(t, "the last one's", r, msg.Msg{Kind: msg.Stored, From: 2, Ask: 2})
	holds(t, "the last one's", r, 2)
	if _, e := r.Deliver(2, 4); e != api.ErrMiss {
		t.Errorf("Deliver without a hint: error %d, want ErrMiss", e)
	}
}

// P24.1: deliveries under way are gone with a crash, and what is refused makes none.
func TestDeliverAndCrash(t *testing.T) {
	d, r := formatted(t, 400, pair(0))
	a := one(at(1, 1), "a")
	hold(t, r, 1, keyOf(4, 9), a)
	for _, ask := range []int{3, -2, mostBegun + 2} {
		r.Deliver(1, ask)
	}
	r.Deliver(0, 8)
	r.Deliver(2, 8)
	r.Begin(1, 8)
	for _, m := range []msg.Msg{{From: 1, Ask: 3}, {From: 1, Ask: mostBegun + 2}, {From: 1, Ask: 8}, {From: 0, Ask: 8}, {From: 2, Ask: 8}} {
		m.Kind = msg.Stored
		silent(t, "refused", r, m)
	}
	holds(t, "refused", r, 1, keyOf(4, 9))
	delivers(t, r, 1, 2, keyOf(4, 9), a)
	d.Crash(nil)
	r = opened(t, d, pair(0))
	silent(t, "behind a crash", r, msg.Msg{Kind: msg.Stored, From: 1, Ask: 2})
	holds(t, "behind a crash", r, 1, keyOf(4, 9))
}

// P24.1: a hint that can't be dropped for want of room: ErrFull, it stays, and the delivery isn't under way any more.
func TestDropErrFull(t *testing.T) {
	for spare := range noRecord + 3 {
		_, r := formatted(t, 10, pair(0)) // 256 bytes of records
		a := one(at(1, 1), string(make([]byte, 256-recordOf1-spare)))
		hold(t, r, 1, keyOf(4, 9), a)
		delivers(t, r, 1, 2, keyOf(4, 9), a)
		if spare > noRecord {
			silent(t, "with room", r, msg.Msg{Kind: msg.Stored, From: 1, Ask: 2})
			holds(t, "with room", r, 1)
			continue
		}
		refuses(t, "without room", r, msg.Msg{Kind: msg.Stored, From: 1, Ask: 2}, api.ErrFull)
		holds(t, "without room", r, 1, keyOf(4, 9))
		silent(t, "not under way", r, msg.Msg{Kind: msg.Stored, From: 1, Ask: 2})
	}
}

// P24.1: ErrDown: there is no answer; nothing is changed, also no delivery under way; what the shelf writes for is refused from then on.
func TestErrDown(t *testing.T) {
	a, b := one(at(1, 1), "a"), one(at(2, 1), "b")
	for n := 1; n <= 5; n++ { // the least record is of two sectors; a Sync, the head, a Sync
		for _, m := range []msg.Msg{
			{Kind: msg.Store, Row: row(keyOf(1, 1), b)},
			{Kind: msg.Hold, For: 1, Row: row(keyOf(4, 9), b)},
			{Kind: msg.Stored, Ask: 2},
			{Kind: msg.Rows, Ask: 6, Rows: []msg.Row{row(keyOf(1, 1), b)}},
		} {
			d, r := formatted(t, 400, pair(0))
			hold(t, r, 1, keyOf(4, 9), a)
			store(t, r, keyOf(1, 1), a)
			delivers(t, r, 1, 2, keyOf(4, 9), a)
			m.From = 1
			d.Fuse(n)
			refuses(t, "ErrDown", r, m, api.ErrDown)
			refuses(t, "ErrDown again", r, m, api.ErrDown)
			refuses(t, "a Store behind it", r, msg.Msg{Kind: msg.Store, From: 1, Row: row(keyOf(1, 1), a)}, api.ErrDown)
			refuses(t, "a Hold behind it", r, msg.Msg{Kind: msg.Hold, From: 1, For: 1, Row: row(keyOf(9, 9), a)}, api.ErrDown)
			refuses(t, "a Stored behind it", r, msg.Msg{Kind: msg.Stored, From: 1, Ask: 2}, api.ErrDown)
			refuses(t, "no message", r, msg.Msg{Kind: msg.Store, Row: msg.Row{Set: []byte{1}}}, api.ErrDecode)
			d.Crash(nil)
			refuses(t, "not opened yet", r, m, api.ErrDown)
		}
	}
}

// P24.2: a Stored with Err 0 is told behind the Sync that makes it stay: with the fuse anywhere, whatever stays.
func TestStays(t *testing.T) {
	first, second := one(at(1, 1), "a"), one(at(2, 1), "b")
	third := one(at(3, 1), string(make([]byte, 300)), at(1, 1)) // it comes into more than one sector, and has seen the first one
	for n := 1; n < 40; n++ {
		for stays := range 8 {
			d, r := formatted(t, 60, pair(0))
			d.Fuse(n)
			var told []sibling.Sibling
			for i, s := range setOf(first, second, third) {
				b, to, e := r.Handle(bytesOf(t, msg.Msg{Kind: msg.Store, From: 8, Ask: 2 * i, Row: row(keyOf(1, 1), s)}))
				m, _ := msg.Read(b)
				if e != api.OK {
					if e != api.ErrDown || len(b) != 0 || to != -1 {
						t.Fatalf("Store: %d bytes for %d, error %d", len(b), to, e)
					}
					break
				}
				if m.Kind != msg.Stored || m.Err != api.OK || to != 8 {
					t.Fatalf("Store: %+v for %d", m, to)
				}
				told, _ = sibling.Put(told, s)
			}
			d.Crash([]bool{stays&1 > 0, stays&2 > 0, stays&4 > 0, stays&1 > 0, stays&2 > 0, stays&4 > 0, true})
			got := opened(t, d, pair(0)).Shelf().Get(keyOf(1, 1))
			seen, _ := sibling.Seen(got)
			for _, s := range told {
				if !dot.Has(seen, s.Dot) {
					t.Fatalf("fuse %d: a sibling that was told is gone", n)
				}
			}
			if all, _ := sibling.Merge(got, told); !sibling.Same(all, got) {
				t.Fatalf("fuse %d: what was told isn't there", n)
			}
		}
	}
}
