package cluster_test

import (
	"bytes"
	"math/rand/v2"
	"slices"
	"testing"

	"casket/api"
	"casket/cluster"
	"casket/disk"
	"casket/dot"
	"casket/msg"
	"casket/repair"
	"casket/replica"
	"casket/ring"
	"casket/sibling"
)

// model: a cluster as the chapter tells it, of replicas on disks of its own.
type model struct {
	c        cluster.Config
	ring     *ring.Ring
	disks    []*disk.Disk
	replicas []*replica.Replica
	up, down []bool
	boxes    [][][]byte
	seen     [][][]byte
	ops      map[int]*modelOp
	last     int // ask of an operation
	others   int // that were begun: what is no operation
	now      int
}

// modelOp: an operation, and who was sent what of it.
type modelOp struct {
	op       cluster.Op
	deadline int
	stores   []int
	holds    []int
	fetches  []int
	answers  []repair.Answer
}

func newModel(t *testing.T, c cluster.Config) *model {
	t.Helper()
	m := &model{c: c, ops: map[int]*modelOp{}, boxes: make([][][]byte, c.Replicas+1), seen: make([][][]byte, c.Replicas+1)}
	var e api.Errno
	if m.ring, e = ring.New(c.Replicas, c.Points); e != api.OK {
		t.Fatal(e)
	}
	for r := range c.Replicas {
		d, _ := disk.New(c.Sectors)
		x, e := replica.Format(d, m.configOf(r))
		if e != api.OK {
			t.Fatal(e)
		}
		m.disks, m.replicas = append(m.disks, d), append(m.replicas, x)
		m.up, m.down = append(m.up, true), append(m.down, false)
	}
	return m
}

func (m *model) configOf(r int) replica.Config {
	return replica.Config{Id: r, Replicas: m.c.Replicas, Points: m.c.Points, N: m.c.N}
}

func (m *model) has(r int) bool { return r >= 0 && r < m.c.Replicas }

// Send: as the net's.
func (m *model) Send(to int, b []byte) api.Errno {
	switch {
	case to < 0 || to > m.c.Replicas:
		return api.ErrArg
	case len(m.boxes[to]) == 64:
		return api.ErrInbox
	}
	m.boxes[to] = append(m.boxes[to], slices.Clone(b))
	return api.OK
}

// tell: of the front: was it sent?
func (m *model) tell(to int, x msg.Msg) bool {
	x.From = m.c.Replicas
	b, e := msg.Write(x)
	return e == api.OK && m.Send(to, b) == api.OK
}

func (m *model) begin(op cluster.Op) (int, *modelOp) {
	m.last += 2
	o := &modelOp{op: op, deadline: m.now + m.c.Wait}
	m.ops[m.last] = o
	return m.last, o
}

func (m *model) Put(key api.Blind, s sibling.Sibling) (int, api.Errno) {
	if sibling.Check(setOf(s)) != api.OK {
		return 0, api.ErrArg
	}
	ask, o := m.begin(cluster.Op{Put: true, Key: key, Set: setOf(s)})
	pairs, _ := m.ring.Stand(key, m.c.N, m.up)
	for _, p := range pairs {
		switch {
		case p[0] == p[1] && m.tell(p[0], msg.Msg{Kind: msg.Store, Ask: ask, Row: row(key, s)}):
			o.stores = append(o.stores, p[0])
		case p[0] != p[1] && m.tell(p[0], msg.Msg{Kind: msg.Hold, For: p[1], Ask: ask, Row: row(key, s)}):
			o.holds = append(o.holds, p[0])
		}
	}
	return ask, api.OK
}

func (m *model) Get(key api.Blind) (int, api.Errno) {
	ask, o := m.begin(cluster.Op{Key: key})
	l, _ := m.ring.Prefer(key, m.c.N)
	for _, r := range l {
		if m.up[r] && m.tell(r, msg.Msg{Kind: msg.Fetch, Ask: ask, Row: msg.Row{Key: key}}) {
			o.fetches = append(o.fetches, r)
		}
	}
	return ask, api.OK
}

// at: the net's errors of a box's k-th message.
func (m *model) at(box, k int) api.Errno {
	switch {
	case box < 0 || box > m.c.Replicas:
		return api.ErrArg
	case k < 0 || k >= len(m.boxes[box]):
		return api.ErrMiss
	}
	return api.OK
}

func (m *model) take(box, k int) []byte {
	b := m.boxes[box][k]
	m.boxes[box] = slices.Delete(m.boxes[box], k, k+1)
	m.seen[box] = append(m.seen[box], b)
	return b
}

func (m *model) Deliver(box, k int) api.Errno {
	if e := m.at(box, k); e != api.OK {
		return e
	}
	if m.has(box) && m.down[box] {
		return api.ErrDown
	}
	b := m.take(box, k)
	if box == m.c.Replicas {
		return m.front(b)
	}
	answer, to, e := m.replicas[box].Handle(b)
	m.down[box] = e == api.ErrDown
	if e != api.OK || to == -1 {
		return e
	}
	return m.Send(to, answer)
}

func (m *model) front(b []byte) api.Errno {
	x, e := msg.Read(b)
	if e != api.OK || x.Kind != msg.Stored && x.Kind != msg.Fetched {
		return api.ErrDecode
	}
	o := m.ops[x.Ask]
	if o == nil || o.op.Done || slices.Contains(o.op.Acks, x.From) {
		return api.OK
	}
	if x.Kind == msg.Stored && o.op.Put && x.Err == api.OK {
		held := slices.Contains(o.holds, x.From)
		if !held && !slices.Contains(o.stores, x.From) {
			return api.OK
		}
		o.op.Acks = append(o.op.Acks, x.From)
		o.op.Hinted = o.op.Hinted || held
		o.op.Done = len(o.op.Acks) == m.c.W
	}
	if x.Kind == msg.Fetched && !o.op.Put && x.Row.Key == o.op.Key && slices.Contains(o.fetches, x.From) {
		if set, e := sibling.Read(x.Row.Set); e == api.OK {
			m.fetched(o, x.From, set)
		}
	}
	return api.OK
}

func (m *model) fetched(o *modelOp, from int, set []sibling.Sibling) {
	o.op.Acks = append(o.op.Acks, from)
	o.answers = append(o.answers, repair.Answer{From: from, Set: set})
	if len(o.op.Acks) != m.c.R {
		return
	}
	o.op.Done = true
	if o.op.Set, o.op.Err = repair.Whole(o.answers); o.op.Err != api.OK {
		return
	}
	lacking, _ := repair.Lacking(o.answers)
	for _, r := range lacking {
		m.others++
		m.tell(r, msg.Msg{Kind: msg.Store, Ask: otherAsk(m.others), Row: row(o.op.Key, o.op.Set...)})
	}
}

func (m *model) Lose(box, k int) api.Errno {
	e := m.at(box, k)
	if e == api.OK {
		m.take(box, k)
	}
	return e
}

func (m *model) Twice(box, k int) api.Errno {
	if e := m.at(box, k); e != api.OK {
		return e
	}
	return m.Send(box, m.boxes[box][k])
}

func (m *model) Tick() {
	for _, o := range m.ops {
		if !o.op.Done && o.deadline <= m.now {
			o.op.Done, o.op.Err = true, api.ErrTimeout
		}
	}
	m.now++
}

func (m *model) Up(r int, up bool) {
	if m.has(r) {
		m.up[r] = up
	}
}

func (m *model) Fuse(r, n int) {
	if m.has(r) {
		m.disks[r].Fuse(n)
	}
}

func (m *model) Crash(r int, stay []bool) api.Errno {
	if !m.has(r) {
		return api.ErrArg
	}
	m.disks[r].Crash(stay)
	x, e := replica.Open(m.disks[r], m.configOf(r))
	if e == api.OK {
		m.replicas[r], m.boxes[r], m.down[r] = x, nil, false
	}
	return e
}

// first: a replica's first message to another one.
func (m *model) first(a, b int, hint bool) api.Errno {
	switch {
	case !m.has(a) || !m.has(b) || a == b:
		return api.ErrArg
	case hint && len(m.replicas[a].Shelf().Hints(b)) == 0:
		return api.ErrMiss
	case len(m.boxes[b]) == 64:
		return api.ErrInbox
	case m.down[a]:
		return api.ErrDown
	}
	m.others++
	call := m.replicas[a].Begin
	if hint {
		call = m.replicas[a].Deliver
	}
	x, e := call(b, otherAsk(m.others))
	if e != api.OK {
		return e
	}
	return m.Send(b, x)
}

func (m *model) Compare(a, b int) api.Errno { return m.first(a, b, false) }

func (m *model) Hand(a, b int) api.Errno { return m.first(a, b, true) }

func (m *model) Settle() int {
	n := 0
	for box := 0; box <= m.c.Replicas; {
		if len(m.boxes[box]) == 0 || m.has(box) && m.down[box] {
			box++
			continue
		}
		m.Deliver(box, 0)
		n++
		box = 0
	}
	return n
}

func (m *model) Op(ask int) (cluster.Op, api.Errno) {
	if o := m.ops[ask]; o != nil {
		return o.op, api.OK
	}
	return cluster.Op{}, api.ErrMiss
}

// steps: what is asked of both.
type steps interface {
	Put(key api.Blind, s sibling.Sibling) (int, api.Errno)
	Get(key api.Blind) (int, api.Errno)
	Deliver(box, k int) api.Errno
	Lose(box, k int) api.Errno
	Twice(box, k int) api.Errno
	Tick()
	Up(r int, up bool)
	Fuse(r, n int)
	Crash(r int, stay []bool) api.Errno
	Compare(a, b int) api.Errno
	Hand(a, b int) api.Errno
	Settle() int
	Send(to int, b []byte) api.Errno
}

// real: a cluster, with its net's Send.
type real struct{ *cluster.Cluster }

func (r real) Send(to int, b []byte) api.Errno { return r.Net().Send(to, b) }

// drawnKey: of few ones.
func drawnKey(rng *rand.Rand) api.Blind { return keyOf(byte(61*rng.IntN(5)), 1) }

// drawnSibling: of few dots, with a body of some size; now and then it is none.
func drawnSibling(rng *rand.Rand) sibling.Sibling {
	s := one(at(1+rng.IntN(3), 1+rng.IntN(5)), string(make([]byte, rng.IntN(200))))
	for range rng.IntN(3) {
		if d := at(1+rng.IntN(3), 1+rng.IntN(5)); d != s.Dot {
			s.Past, _ = dot.Add(s.Past, d)
		}
	}
	if rng.IntN(40) == 0 {
		s.Dot.Client = 17 * rng.IntN(2)
	}
	return s
}

// drawnMessage: of whoever to whoever, of asks that there are.
func drawnMessage(rng *rand.Rand, m *model) []byte {
	x := msg.Msg{From: rng.IntN(m.c.Replicas + 1), Ask: max(0, m.last-rng.IntN(20)), For: rng.IntN(m.c.Replicas), Row: msg.Row{Key: drawnKey(rng)}}
	if rng.IntN(3) == 0 {
		x.Ask = otherAsk(m.others) - rng.IntN(20)
	}
	x.Kind = []int{msg.Store, msg.Stored, msg.Stored, msg.Fetch, msg.Fetched, msg.Fetched, msg.Hold, msg.Nodes, msg.Rows, msg.Rows, msg.Rows}[rng.IntN(11)]
	if rng.IntN(20) == 0 {
		x.From = 8
	}
	if o := m.ops[x.Ask]; o != nil && rng.IntN(4) > 0 {
		x.Row.Key = o.op.Key
	}
	var set []sibling.Sibling
	for range rng.IntN(3) {
		set, _ = sibling.Put(set, drawnSibling(rng))
	}
	x.Row.Set = written(set)
	if rng.IntN(20) == 0 {
		x.Row.Set = x.Row.Set[1:]
	}
	x.Err = api.Errno(8 * (rng.IntN(5) / 4))
	x.At, x.Digests = []int{0}, make([][32]byte, 1)
	x.Rows = []msg.Row{x.Row}
	if rng.IntN(2) == 0 { // more than there may be room for
		x.Rows = append(x.Rows, row(drawnKey(rng), one(at(4, 1+rng.IntN(9)), string(make([]byte, 3000)))))
	}
	b, _ := msg.Write(x)
	if rng.IntN(20) == 0 {
		b = b[:len(b)-1]
	}
	return b
}

// drawnStep: a call, to be made of both: what it answers.
func drawnStep(rng *rand.Rand, m *model) func(x steps) (int, api.Errno) {
	none := func(f func(x steps) api.Errno) func(x steps) (int, api.Errno) {
		return func(x steps) (int, api.Errno) { return 0, f(x) }
	}
	some := func() int { return rng.IntN(m.c.Replicas+2) - rng.IntN(8)/7 } // a number near those that there are
	box, k := some(), 0
	if box >= 0 && box < len(m.boxes) {
		k = rng.IntN(len(m.boxes[box])+1) - rng.IntN(20)/19
	}
	a, b := some(), some()
	switch n := rng.IntN(100); {
	case n < 14:
		key, s := drawnKey(rng), drawnSibling(rng)
		return func(x steps) (int, api.Errno) { return x.Put(key, s) }
	case n < 24:
		key := drawnKey(rng)
		return func(x steps) (int, api.Errno) { return x.Get(key) }
	case n < 58:
		return none(func(x steps) api.Errno { return x.Deliver(box, k) })
	case n < 61:
		return none(func(x steps) api.Errno { return x.Lose(box, k) })
	case n < 66:
		times := 1
		if rng.IntN(10) == 0 {
			times = 70
		}
		return none(func(x steps) api.Errno {
			e := api.OK
			for range times {
				e = x.Twice(box, k)
			}
			return e
		})
	case n < 70:
		return none(func(x steps) api.Errno { x.Tick(); return api.OK })
	case n < 75:
		up := rng.IntN(2) > 0
		return none(func(x steps) api.Errno { x.Up(a, up); return api.OK })
	case n < 77:
		at := rng.IntN(12)
		return none(func(x steps) api.Errno { x.Fuse(a, at); return api.OK })
	case n < 80:
		stay := []bool{rng.IntN(2) == 0, rng.IntN(2) == 0, rng.IntN(2) == 0}
		return none(func(x steps) api.Errno { return x.Crash(a, stay) })
	case n < 83:
		return none(func(x steps) api.Errno { return x.Compare(a, b) })
	case n < 88:
		return none(func(x steps) api.Errno { return x.Hand(a, b) })
	case n < 98:
		bytes := drawnMessage(rng, m)
		return none(func(x steps) api.Errno { return x.Send(box, bytes) })
	}
	return func(x steps) (int, api.Errno) { return x.Settle(), api.OK }
}

// P26.1: all calls, drawn, also wrong ones, with disks of little room, fuses and crashes: the answers, the operations, the boxes, and each byte of the disks.
func TestDrawn(t *testing.T) {
	met := map[api.Errno]int{}
	ended := map[api.Errno]int{}
	hinted := 0
	for seed := range uint64(300) {
		rng := rand.New(rand.NewPCG(seed, 26))
		config := cluster.Config{Replicas: 1 + rng.IntN(5), Points: 1 + rng.IntN(4), Wait: 1 + rng.IntN(4), Sectors: []int{16, 24, 40, 160}[rng.IntN(4)]}
		config.N = 1 + rng.IntN(config.Replicas)
		config.R, config.W = 1+rng.IntN(config.N), 1+rng.IntN(config.N)
		m, c := newModel(t, config), made(t, config)
		for i := range 120 {
			step := drawnStep(rng, m)
			got, e := step(real{c})
			want, wantErr := step(m)
			if got != want || e != wantErr {
				t.Fatalf("seed %d, step %d: %d, error %d, want %d, error %d", seed, i, got, e, want, wantErr)
			}
			met[e]++
			sameState(t, seed, i, c, m)
		}
		for _, o := range m.ops {
			if o.op.Done {
				ended[o.op.Err]++
			}
			if o.op.Hinted {
				hinted++
			}
		}
		sameBoxes(t, seed, c, m)
	}
	for _, e := range []api.Errno{api.OK, api.ErrArg, api.ErrDecode, api.ErrMiss, api.ErrFull, api.ErrDown, api.ErrInbox} {
		if met[e] < 5 {
			t.Errorf("error %d was met %d times", e, met[e])
		}
	}
	if ended[api.OK] < 100 || ended[api.ErrTimeout] < 100 || hinted < 50 {
		t.Errorf("operations ended: %v, hinted: %d", ended, hinted)
	}
}

// sameState: operations, disks, and how many messages are under way.
func sameState(t *testing.T, seed uint64, step int, c *cluster.Cluster, m *model) {
	t.Helper()
	for ask := range m.last + 4 {
		o, e := c.Op(ask)
		want, wantErr := m.Op(ask)
		if e != wantErr || !sameOp(o, want) {
			t.Fatalf("seed %d, step %d: operation %d is %+v, error %d, want %+v, error %d", seed, step, ask, o, e, want, wantErr)
		}
	}
	for box := range m.c.Replicas + 1 {
		if n := c.Net().Len(box); n != len(m.boxes[box]) {
			t.Fatalf("seed %d, step %d: %d messages are in box %d, want %d", seed, step, n, box, len(m.boxes[box]))
		}
		if m.has(box) && !bytes.Equal(c.Image(box), m.disks[box].Image()) {
			t.Fatalf("seed %d, step %d: the disk of replica %d is another one", seed, step, box)
		}
	}
}

// sameBoxes: all that was ever taken, and what is under way.
func sameBoxes(t *testing.T, seed uint64, c *cluster.Cluster, m *model) {
	t.Helper()
	for box := range m.boxes {
		for c.Net().Len(box) > 0 {
			c.Net().Take(box, 0)
		}
		if want := slices.Concat(m.seen[box], m.boxes[box]); !slices.EqualFunc(c.Net().Seen(box), want, bytes.Equal) {
			t.Fatalf("seed %d: other messages came to box %d, or are in it", seed, box)
		}
	}
}
