package replica_test

import (
	"bytes"
	"math/rand/v2"
	"slices"
	"testing"

	"casket/api"
	"casket/disk"
	"casket/dot"
	"casket/msg"
	"casket/replica"
	"casket/shelf"
	"casket/sibling"
)

// model: a replica as the chapter tells it, with a shelf of its own on a disk of its own.
type model struct {
	c     replica.Config
	d     *disk.Disk
	s     *shelf.Shelf
	under []delivery
}

// delivery: one that is under way.
type delivery struct {
	ask, to int
	hint    shelf.Hint
}

// crash: of the model's disk; it is opened anew.
func (m *model) crash(t *testing.T, stay []bool) {
	t.Helper()
	m.d.Crash(stay)
	s, e := shelf.Open(m.d)
	if e != api.OK {
		t.Fatal(e)
	}
	m.s, m.under = s, nil
}

func (m *model) isOther(n int) bool { return n != m.c.Id && n >= 0 && n < m.c.Replicas }

// handle: the answer (of Kind 0: none), and the error.
func (m *model) handle(x msg.Msg) (msg.Msg, api.Errno) {
	none := msg.Msg{}
	set, unread := sibling.Read(x.Row.Set)
	switch {
	case x.Kind == msg.Fetched, (x.Kind == msg.Store || x.Kind == msg.Hold) && unread != api.OK:
		return none, api.ErrDecode
	case (x.Kind == msg.Nodes || x.Kind == msg.Rows) && !m.isOther(x.From):
		return none, api.ErrDecode
	}
	answer := msg.Msg{From: m.c.Id, Ask: x.Ask}
	switch x.Kind {
	case msg.Store:
		answer.Kind = msg.Stored
		_, answer.Err = m.s.Merge(x.Row.Key, set)
	case msg.Hold:
		answer.Kind = msg.Stored
		answer.Err = m.s.Hold(shelf.Hint{For: x.For, Key: x.Row.Key, Set: set})
	case msg.Fetch:
		answer.Kind, answer.Row = msg.Fetched, row(x.Row.Key, m.s.Get(x.Row.Key)...)
	case msg.Stored:
		return none, m.stored(x)
	case msg.Nodes:
		return m.nodes(x, answer)
	case msg.Rows:
		return m.rows(x, answer)
	}
	if answer.Err == api.ErrDown {
		return none, api.ErrDown
	}
	return answer, api.OK
}

func (m *model) stored(x msg.Msg) api.Errno {
	for i, d := range m.under {
		if d.ask != x.Ask || d.to != x.From {
			continue
		}
		e := api.OK
		if x.Err == api.OK {
			e = m.s.Drop(d.to, d.hint.Key, d.hint.Set)
		}
		if e != api.ErrDown {
			m.under = slices.Delete(m.under, i, i+1)
		}
		if e == api.ErrMiss {
			e = api.OK
		}
		return e
	}
	return api.OK
}

func (m *model) nodes(x, answer msg.Msg) (msg.Msg, api.Errno) {
	if len(x.At) != len(x.Digests) {
		return msg.Msg{}, api.ErrDecode
	}
	tree := treeOf(m.c, m.s, x.From)
	for i, n := range x.At {
		d, e := tree.Node(x.Level, n)
		switch {
		case e != api.OK:
			return msg.Msg{}, api.ErrDecode
		case d != x.Digests[i] && x.Level < 4:
			answer.At = append(answer.At, 4*n, 4*n+1, 4*n+2, 4*n+3)
		case d != x.Digests[i]:
			answer.At = append(answer.At, n)
		}
	}
	answer.Kind = msg.Rows
	if x.Level < 4 && len(answer.At) > 0 {
		answer.Kind, answer.Level = msg.Nodes, x.Level+1
		for _, n := range answer.At {
			d, _ := tree.Node(answer.Level, n)
			answer.Digests = append(answer.Digests, d)
		}
		return answer, api.OK
	}
	answer.Rows = rowsOf(m.s, tree, answer.At...)
	return answer, api.OK
}

func (m *model) rows(x, answer msg.Msg) (msg.Msg, api.Errno) {
	for _, r := range x.Rows {
		if _, e := sibling.Read(r.Set); e != api.OK {
			return msg.Msg{}, api.ErrDecode
		}
	}
	for _, r := range x.Rows {
		set, _ := sibling.Read(r.Set)
		if !isShared(m.c, r.Key, x.From) {
			continue
		}
		if _, e := m.s.Merge(r.Key, set); e != api.OK {
			return msg.Msg{}, e
		}
	}
	if x.Ask%2 == 1 {
		return msg.Msg{}, api.OK
	}
	answer.Kind, answer.Ask, answer.At = msg.Rows, x.Ask+1, x.At
	answer.Rows = rowsOf(m.s, treeOf(m.c, m.s, x.From), x.At...)
	return answer, api.OK
}

func (m *model) deliver(other, ask int) (msg.Msg, api.Errno) {
	if !m.isOther(other) || ask < 0 || ask > mostBegun || ask%2 == 1 {
		return msg.Msg{}, api.ErrArg
	}
	hints := m.s.Hints(other)
	if len(hints) == 0 {
		return msg.Msg{}, api.ErrMiss
	}
	m.under = slices.DeleteFunc(m.under, func(d delivery) bool { return d.ask == ask })
	m.under = append(m.under, delivery{ask, other, hints[0]})
	return msg.Msg{Kind: msg.Store, From: m.c.Id, Ask: ask, Row: row(hints[0].Key, hints[0].Set...)}, api.OK
}

// drawnSet: of few siblings, of which some are seen by other ones.
func drawnSet(rng *rand.Rand) []sibling.Sibling {
	var l []sibling.Sibling
	for client := 1; client <= 3; client++ {
		if rng.IntN(2) == 0 {
			continue
		}
		s := one(at(client, 1+rng.IntN(4)), string(rune('a'+rng.IntN(3))))
		for range rng.IntN(4) {
			if d := at(1+rng.IntN(3), 1+rng.IntN(4)); d != s.Dot {
				s.Past, _ = dot.Add(s.Past, d)
			}
		}
		if got, e := sibling.Put(l, s); e == api.OK {
			l = got
		}
	}
	return l
}

// drawnRow: of few keys; now and then it isn't a set's.
func drawnRow(rng *rand.Rand) msg.Row {
	r := row(keyOf(byte(37*rng.IntN(7)), 1), drawnSet(rng)...)
	if rng.IntN(40) == 0 {
		r.Set = r.Set[1:]
	}
	return r
}

// drawnMsg: of any kind; a Nodes' digests are mostly the model's own.
func drawnMsg(rng *rand.Rand, m *model) msg.Msg {
	x := msg.Msg{From: rng.IntN(4), Ask: rng.IntN(6), Row: drawnRow(rng), For: rng.IntN(3)}
	x.Kind = []int{msg.Store, msg.Store, msg.Stored, msg.Stored, msg.Fetch, msg.Fetched, msg.Hold, msg.Hold, msg.Nodes, msg.Nodes, msg.Rows, msg.Rows}[rng.IntN(12)]
	if x.Kind == msg.Fetched && rng.IntN(3) > 0 {
		x.Kind = msg.Fetch
	}
	if rng.IntN(4) == 0 {
		x.Err = api.Errno(rng.IntN(4))
	}
	x.Level = rng.IntN(5)
	for range rng.IntN(5) {
		at := 37 * rng.IntN(7) >> (2 * (4 - x.Level)) // a node above a key
		if rng.IntN(60) == 0 {
			at = rng.IntN(256)
		}
		x.At = append(x.At, at)
		d, _ := treeOf(m.c, m.s, x.From).Node(x.Level, at)
		if rng.IntN(3) == 0 {
			d[0]++
		}
		x.Digests = append(x.Digests, d)
	}
	if rng.IntN(30) == 0 {
		x.Digests = append(x.Digests, [32]byte{})
	}
	for range rng.IntN(4) {
		x.Rows = append(x.Rows, drawnRow(rng))
	}
	return x
}

// P24.1: all calls, drawn, on disks with room for much and for little, with the power going off, and crashes: the answers, and each byte of the disk.
func TestDrawn(t *testing.T) {
	met := map[api.Errno]int{}
	for seed := range uint64(250) {
		rng := rand.New(rand.NewPCG(seed, 24))
		c := trio(rng.IntN(3))
		sectors := []int{12, 20, 40, 100, 400}[rng.IntN(5)]
		d, r := formatted(t, sectors, c)
		m := &model{c: c, d: newDisk(t, sectors)}
		m.s, _ = shelf.Format(m.d)
		for range 80 {
			e := drawnStep(t, rng, r, m)
			met[e]++
			if rng.IntN(60) == 0 {
				n := 1 + rng.IntN(12)
				d.Fuse(n)
				m.d.Fuse(n)
			}
			if e == api.ErrDown && rng.IntN(3) == 0 || rng.IntN(40) == 0 {
				stay := []bool{rng.IntN(2) == 0, rng.IntN(2) == 0, rng.IntN(2) == 0}
				d.Crash(stay)
				m.crash(t, stay)
				r = opened(t, d, c)
			}
			if !bytes.Equal(d.Image(), m.d.Image()) || d.Loose() != m.d.Loose() {
				t.Fatalf("seed %d: the disk is another one", seed)
			}
		}
	}
	for _, e := range []api.Errno{api.OK, api.ErrArg, api.ErrDecode, api.ErrMiss, api.ErrFull, api.ErrDown} {
		if met[e] < 20 {
			t.Errorf("error %d was met %d times", e, met[e])
		}
	}
}

// drawnStep: one call, of the replica and of the model: its error.
func drawnStep(t *testing.T, rng *rand.Rand, r *replica.Replica, m *model) api.Errno {
	t.Helper()
	if rng.IntN(8) == 0 {
		other, ask := rng.IntN(5)-1, rng.IntN(7)
		got, e := r.Deliver(other, ask)
		want, wantErr := m.deliver(other, ask)
		return same(t, "Deliver", got, want, e, wantErr)
	}
	if rng.IntN(20) == 0 {
		other, ask := rng.IntN(5)-1, rng.IntN(7)
		want, wantErr := msg.Msg{}, api.ErrArg
		if m.isOther(other) && ask%2 == 0 {
			want = msg.Msg{Kind: msg.Nodes, From: m.c.Id, Ask: ask, At: []int{0}, Digests: [][32]byte{treeOf(m.c, m.s, other).Root()}}
			wantErr = api.OK
		}
		got, e := r.Begin(other, ask)
		return same(t, "Begin", got, want, e, wantErr)
	}
	x := drawnMsg(rng, m)
	got, to, e := r.Handle(bytesOf(t, x))
	want, wantErr := m.handle(x)
	if wantTo := x.From; (want.Kind == 0) != (to == -1) || to != -1 && to != wantTo {
		t.Fatalf("kind %d: an answer for %d", x.Kind, to)
	}
	return same(t, "Handle", got, want, e, wantErr)
}

// same: an answer is just this message (of Kind 0: none), with this error.
func same(t *testing.T, what string, got []byte, want msg.Msg, e, wantErr api.Errno) api.Errno {
	t.Helper()
	var b []byte
	if want.Kind != 0 {
		b = bytesOf(t, want)
	}
	if !bytes.Equal(got, b) || e != wantErr {
		m, _ := msg.Read(got)
		t.Fatalf("%s: %+v, error %d, want %+v, error %d", what, m, e, want, wantErr)
	}
	return e
}
