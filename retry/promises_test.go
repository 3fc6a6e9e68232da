package retry_test

import (
	"bytes"
	"math/rand/v2"
	"slices"
	"testing"

	"casket/api"
	"casket/client"
	"casket/cluster"
	"casket/dot"
	"casket/retry"
	"casket/sibling"
	"casket/vault"
)

// model: a session as the chapter tells it, by a cluster and a client of its own.
type model struct {
	c     *cluster.Cluster
	x     *client.Client
	tries int
	ops   []*modelOp
}

type modelOp struct {
	retry.State
	value   []byte
	deleted bool
	asks    []int
	sent    []sibling.Sibling
}

func (m *model) put(o *modelOp, past dot.Context) api.Errno {
	key, s, e := m.x.Write(o.Name, o.value, o.deleted, past)
	if e != api.OK {
		return e
	}
	ask, e := m.c.Put(key, s)
	if e == api.OK {
		o.asks, o.sent, o.Tries = append(o.asks, ask), append(o.sent, s), o.Tries+1
	}
	return e
}

func (m *model) get(o *modelOp) api.Errno {
	key, e := m.x.Key(o.Name)
	if e != api.OK {
		return e
	}
	ask, e := m.c.Get(key)
	if e == api.OK {
		o.asks, o.Tries = append(o.asks, ask), o.Tries+1
	}
	return e
}

func (m *model) look() int {
	n := 0
	for _, o := range m.ops {
		op, _ := m.c.Op(o.asks[len(o.asks)-1])
		if o.Done || !op.Done {
			continue
		}
		if op.Err == api.ErrTimeout && len(o.asks) < m.tries {
			var e api.Errno
			if !o.Put {
				e = m.get(o)
			} else if past, err := dot.Add(o.sent[len(o.sent)-1].Past, o.sent[len(o.sent)-1].Dot); err != api.OK {
				e = err
			} else {
				e = m.put(o, past)
			}
			if e == api.OK {
				continue
			}
			op.Err = e
		}
		n++
		o.Done, o.Err = true, op.Err
		switch {
		case o.Err != api.OK:
		case o.Put:
			o.Seen, _ = sibling.Seen(o.sent[len(o.sent)-1:])
		default:
			o.Values, _, _ = m.x.Read(o.Name, op.Set)
			o.Seen, _ = sibling.Seen(op.Set)
		}
	}
	return n
}

// life: a session and its model, each with a cluster and a client of its own.
type life struct {
	t     *testing.T
	rng   *rand.Rand
	s     *retry.Session
	c     *cluster.Cluster
	x     *client.Client
	m     *model
	names [][]byte
	size  int // replicas
}

func newLife(t *testing.T, rng *rand.Rand, ideal bool) *life {
	t.Helper()
	config := cluster.Config{Replicas: 1 + rng.IntN(4), Points: 2, Wait: 1 + rng.IntN(3), Sectors: 6000}
	config.N = 1 + rng.IntN(config.Replicas)
	config.R, config.W = 1+rng.IntN(config.N), 1+rng.IntN(config.N)
	build := vault.Real
	if ideal {
		build = vault.Ideal
	}
	id, tries := 1+rng.IntN(16), 1+rng.IntN(5)
	l := &life{t: t, rng: rng, c: newCluster(t, config), x: newClient(t, id, build([32]byte{4})), size: config.Replicas}
	l.m = &model{c: newCluster(t, config), x: newClient(t, id, build([32]byte{4})), tries: tries}
	l.names = [][]byte{[]byte("a"), []byte("b"), []byte("ab"), []byte("a"), []byte("b"), []byte("ab"), nil}
	var e api.Errno
	if l.s, e = retry.New(l.c, l.x, tries); e != api.OK {
		t.Fatalf("New: error %d", e)
	}
	return l
}

// past: what an operation has seen, or some dots.
func (l *life) past() dot.Context {
	var c dot.Context
	if n := len(l.m.ops); n > 0 && l.rng.IntN(2) == 0 {
		c = l.m.ops[l.rng.IntN(n)].Seen
	}
	for range l.rng.IntN(3) * l.rng.IntN(2) {
		c, _ = dot.Add(c, at(1+l.rng.IntN(16), 1+l.rng.IntN(6)))
	}
	return c
}

// begin: an operation of both.
func (l *life) begin() {
	l.t.Helper()
	o := &modelOp{State: retry.State{Put: l.rng.IntN(3) > 0, Name: l.names[l.rng.IntN(len(l.names))]}, value: []byte{byte(l.rng.IntN(256))}, deleted: l.rng.IntN(4) == 0}
	past := l.past()
	var n int
	var e, want api.Errno
	if o.Put {
		n, e = l.s.Put(o.Name, o.value, o.deleted, past)
		want = l.m.put(o, past)
	} else {
		n, e = l.s.Get(o.Name)
		want = l.m.get(o)
	}
	place := 0
	if want == api.OK {
		place = len(l.m.ops)
		l.m.ops = append(l.m.ops, o)
	}
	if n != place || e != want {
		l.t.Fatalf("%+v: %d, error %d, want %d, error %d", o, n, e, place, want)
	}
}

// stir: something happens to both clusters.
func (l *life) stir() {
	box, other, up, n := l.rng.IntN(l.size+1), l.rng.IntN(l.size), l.rng.IntN(3) > 0, l.rng.IntN(30)
	k := 0
	if size := l.c.Net().Len(box); size > 0 {
		k = l.rng.IntN(size)
	}
	rotates := l.rng.IntN(40) == 0
	for i, c := range []*cluster.Cluster{l.c, l.m.c} {
		switch {
		case n < 12:
			c.Deliver(box, k)
		case n < 16:
			c.Lose(box, k)
		case n < 17:
			c.Twice(box, k)
		case n < 22:
			c.Tick()
		case n < 25:
			c.Up(other, up)
		case n < 26:
			c.Crash(other, nil)
		case n < 27:
			c.Fuse(other, 5+k)
		default:
			c.Settle()
		}
		if rotates {
			[]*client.Client{l.x, l.m.x}[i].Rotate()
		}
	}
}

// same: all operations are the model's.
func (l *life) same() {
	l.t.Helper()
	left := 0
	for n, o := range l.m.ops {
		got, e := l.s.State(n)
		if e != api.OK || !sameState(got, o.State) {
			l.t.Fatalf("operation %d: %+v, error %d, want %+v", n, got, e, o.State)
		}
		if !sibling.Same(l.s.Sent(n), o.sent) {
			l.t.Fatalf("operation %d has sent %v, want %v", n, l.s.Sent(n), o.sent)
		}
		if !o.Done {
			left++
		}
	}
	if got := l.s.Left(); got != left {
		l.t.Fatalf("%d left, want %d", got, left)
	}
	if _, e := l.s.State(len(l.m.ops)); e != api.ErrMiss {
		l.t.Fatalf("one more: error %d", e)
	}
}

// P33.1, P33.2, P33.3: over drawn lives, with loss, doubling, crashes and time, a session is as the chapter tells it, and does just that to its cluster.
func TestDrawn(t *testing.T) {
	tried, done, told, failed := 0, 0, 0, 0
	for seed := range uint64(150) {
		rng := rand.New(rand.NewPCG(331, seed))
		l := newLife(t, rng, seed%2 == 0)
		ended := map[int]retry.State{}
		for range 200 {
			switch n := rng.IntN(12); {
			case n < 1:
				l.begin()
			case n < 4:
				if got, want := l.s.Look(), l.m.look(); got != want {
					t.Fatalf("seed %d: %d noticed, want %d", seed, got, want)
				}
			default:
				l.stir()
			}
			l.same()
			for n, o := range l.m.ops {
				st, _ := l.s.State(n)
				if was, is := ended[n]; is && !sameState(st, was) || st.Tries < 1 || st.Tries > l.m.tries {
					t.Fatalf("seed %d: operation %d is %+v now", seed, n, st)
				}
				if o.Done {
					ended[n] = st
				}
				chained(t, l.s.Sent(n))
			}
		}
		for r := range l.size {
			if !bytes.Equal(l.c.Image(r), l.m.c.Image(r)) || l.c.Net().Len(r) != l.m.c.Net().Len(r) {
				t.Fatalf("seed %d: replica %d was told something else", seed, r)
			}
		}
		for _, o := range l.m.ops {
			tried, told = tried+o.Tries-1, told+len(o.Values)
			if o.Done && o.Err == api.OK {
				done++
			} else if o.Done {
				failed++
			}
		}
	}
	if tried < 300 || done < 500 || told < 150 || failed < 200 {
		t.Errorf("only %d tries again, %d done, %d values, %d failed", tried, done, told, failed)
	}
}

// chained: each sibling has seen all those ahead of it, so that no two of them are a set.
func chained(t *testing.T, l []sibling.Sibling) {
	t.Helper()
	for i, s := range l {
		for _, ahead := range l[:i] {
			if !dot.Has(s.Past, ahead.Dot) {
				t.Fatalf("%v hasn't seen %v", s.Dot, ahead.Dot)
			}
		}
	}
}

// P33.2: whichever tries come, late or early, to whomever: no Get tells two of one Put.
func TestOneOfAPut(t *testing.T) {
	told := 0
	for seed := range uint64(100) {
		rng := rand.New(rand.NewPCG(332, seed))
		s, c, x := made(t, 1+rng.IntN(10))
		for n := range 1 + rng.IntN(3) {
			puts(t, s, n, name, "v", dot.Context{})
		}
		puts := s.Left()
		for range 150 {
			switch n := rng.IntN(9); {
			case n < 2:
				c.Tick()
			case n < 3:
				s.Look()
			case n < 8:
				box := rng.IntN(4)
				if size := c.Net().Len(box); size > 0 {
					c.Deliver(box, rng.IntN(size))
				}
			default:
				if n, e := s.Get(name); n < puts || e != api.OK {
					t.Fatalf("Get: %d, error %d", n, e)
				}
			}
		}
		c.Settle()
		s.Look()
		last, _ := s.Get(name)
		c.Settle()
		s.Look()
		for n := puts; n <= last; n++ {
			st, _ := s.State(n)
			for put := range puts {
				var l []sibling.Sibling
				for _, sent := range s.Sent(put) {
					if slices.ContainsFunc(st.Values, func(v client.Value) bool { return v.Dot == sent.Dot }) {
						l = append(l, sent)
					}
				}
				if len(l) > 1 {
					t.Fatalf("seed %d: of one Put %d stand beside each other: %+v", seed, len(l), st)
				}
			}
			told += len(st.Values)
		}
		if st, _ := s.State(last); len(st.Values) > puts || x.Sealed() < puts {
			t.Fatalf("seed %d: %+v", seed, st)
		}
	}
	if told < 200 {
		t.Errorf("only %d values told", told)
	}
}

// lent: bytes with spare room behind them, and a look whether any of it was changed; then they are written over.
func lent(t *testing.T, text string) ([]byte, func()) {
	whole := []byte(text + "spare room")
	return whole[:len(text)], func() {
		t.Helper()
		if string(whole) != text+"spare room" {
			t.Errorf("%q was changed", whole)
		}
		clear(whole)
	}
}

// P33.4: what is handed in isn't changed and not kept: what is tried again is as it was.
func TestArguments(t *testing.T) {
	s, c, x := made(t, 3)
	n, nLook := lent(t, "n")
	v, vLook := lent(t, "value")
	more := []api.Dot{at(2, 3), at(3, 3), at(9, 9)}
	if i, e := s.Put(n, v, false, dot.Context{More: more[:2]}); i != 0 || e != api.OK {
		t.Fatalf("%d, error %d", i, e)
	}
	if i, e := s.Get(n); i != 1 || e != api.OK {
		t.Fatalf("%d, error %d", i, e)
	}
	nLook()
	vLook()
	if !slices.Equal(more, []api.Dot{at(2, 3), at(3, 3), at(9, 9)}) {
		t.Errorf("%v", more)
	}
	clear(more)
	late(c)
	looks(t, "late", s, 0, 2)
	for i, sent := range s.Sent(0) {
		l, passed, _ := x.Read(name, []sibling.Sibling{sent})
		if passed != 0 || string(l[0].Bytes) != "value" || !dot.Has(l[0].Past, at(2, 3)) || !dot.Has(l[0].Past, at(3, 3)) {
			t.Errorf("try %d: %+v", i, l)
		}
	}
	c.Settle()
	looks(t, "settled", s, 2, 0)
	if st, _ := s.State(1); len(st.Values) != 1 || string(st.Values[0].Bytes) != "value" {
		t.Errorf("%+v", st)
	}
}

// P33.4: answers are new memory: what is written over changes none of those to come.
func TestAnswers(t *testing.T) {
	s, c, _ := made(t, 3)
	puts(t, s, 0, name, "value", past(at(2, 3)))
	late(c)
	looks(t, "late", s, 0, 1)
	for range 2 {
		for _, x := range s.Sent(0) {
			clear(x.Body)
			clear(x.Past.More)
			_ = append(x.Past.More[:0], at(9, 9))
		}
		clear(s.Sent(0))
	}
	late(c)
	looks(t, "late again", s, 0, 1)
	c.Settle()
	gets(t, s, 1, name)
	c.Settle()
	looks(t, "settled", s, 2, 0)
	v := client.Value{Dot: at(1, 3), Epoch: 1, Past: past(at(2, 3), at(1, 1), at(1, 2)), Bytes: []byte("value")}
	for range 3 {
		put, _ := s.State(0)
		get, _ := s.State(1)
		want := retry.State{Put: true, Name: name, Tries: 3, Done: true, Seen: past(at(2, 3), at(1, 1), at(1, 2), at(1, 3))}
		if !sameState(put, want) {
			t.Errorf("%+v, want %+v", put, want)
		}
		want = retry.State{Name: name, Tries: 1, Done: true, Values: []client.Value{v}, Seen: want.Seen}
		if !sameState(get, want) {
			t.Errorf("%+v, want %+v", get, want)
		}
		for _, st := range []retry.State{put, get} {
			for i := range st.Values {
				clear(st.Values[i].Bytes)
				clear(st.Values[i].Past.More)
			}
			clear(st.Values)
			clear(st.Seen.More)
			copy(st.Name, "x")
			_ = append(st.Name, 'y')
		}
		if l := s.Sent(0); len(l) != 3 || l[2].Dot != v.Dot || !dot.Same(l[2].Past, v.Past) || len(l[2].Body) == 0 || bytes.Equal(l[2].Body, make([]byte, len(l[2].Body))) {
			t.Errorf("%v", l)
		}
	}
	gets(t, s, 2, name)
	c.Settle()
	looks(t, "again", s, 1, 0)
	is(t, "again", s, 2, retry.State{Name: name, Tries: 1, Done: true, Values: []client.Value{v}, Seen: past(at(2, 3), at(1, 1), at(1, 2), at(1, 3))})
}
