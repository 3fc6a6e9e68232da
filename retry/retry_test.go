package retry_test

import (
	"bytes"
	"math"
	"slices"
	"testing"

	"casket/api"
	"casket/client"
	"casket/cluster"
	"casket/dot"
	"casket/msg"
	"casket/retry"
	"casket/sibling"
	"casket/vault"
)

const wait = 3

var (
	name    = []byte("n")
	noNames = [][]byte{nil, {}, make([]byte, 65)}
)

// usual: three replicas that each have all, two of which must answer within three ticks.
func usual() cluster.Config {
	return cluster.Config{Replicas: 3, Points: 2, N: 3, R: 2, W: 2, Wait: wait, Sectors: 600}
}

func newCluster(t *testing.T, c cluster.Config) *cluster.Cluster {
	t.Helper()
	x, e := cluster.New(c)
	if e != api.OK {
		t.Fatalf("cluster: error %d", e)
	}
	return x
}

func newClient(t *testing.T, id int, v *vault.Vault) *client.Client {
	t.Helper()
	x, e := client.New(id, v)
	if e != api.OK {
		t.Fatalf("client: error %d", e)
	}
	return x
}

// made: a session of the first client, of the usual cluster.
func made(t *testing.T, tries int) (*retry.Session, *cluster.Cluster, *client.Client) {
	t.Helper()
	c, x := newCluster(t, usual()), newClient(t, 1, vault.Ideal([32]byte{3, 3}))
	s, e := retry.New(c, x, tries)
	if e != api.OK || s == nil {
		t.Fatalf("New: error %d", e)
	}
	return s, c, x
}

func at(client, number int) api.Dot { return api.Dot{Client: client, Number: number} }

// past: of some dots.
func past(dots ...api.Dot) dot.Context {
	var c dot.Context
	for _, d := range dots {
		c, _ = dot.Add(c, d)
	}
	return c
}

func sameValue(a, b client.Value) bool {
	return a.Dot == b.Dot && a.Epoch == b.Epoch && dot.Same(a.Past, b.Past) && a.Deleted == b.Deleted && bytes.Equal(a.Bytes, b.Bytes)
}

func sameState(a, b retry.State) bool {
	return a.Put == b.Put && bytes.Equal(a.Name, b.Name) && a.Tries == b.Tries && a.Done == b.Done && a.Err == b.Err &&
		slices.EqualFunc(a.Values, b.Values, sameValue) && dot.Same(a.Seen, b.Seen)
}

// is: the state of an operation.
func is(t *testing.T, what string, s *retry.Session, n int, want retry.State) {
	t.Helper()
	if got, e := s.State(n); e != api.OK || !sameState(got, want) {
		t.Errorf("%s: %+v, error %d, want %+v", what, got, e, want)
	}
}

// looks: so many are noticed, and so many are left.
func looks(t *testing.T, what string, s *retry.Session, want, left int) {
	t.Helper()
	if got := s.Look(); got != want {
		t.Errorf("%s: %d noticed, want %d", what, got, want)
	}
	if got := s.Left(); got != left {
		t.Errorf("%s: %d left, want %d", what, got, left)
	}
}

func puts(t *testing.T, s *retry.Session, want int, name []byte, value string, past dot.Context) {
	t.Helper()
	if n, e := s.Put(name, []byte(value), false, past); n != want || e != api.OK {
		t.Fatalf("Put %q: %d, error %d, want %d", value, n, e, want)
	}
}

func gets(t *testing.T, s *retry.Session, want int, name []byte) {
	t.Helper()
	if n, e := s.Get(name); n != want || e != api.OK {
		t.Fatalf("Get: %d, error %d, want %d", n, e, want)
	}
}

// late: all that is under way to replicas is lost, and the wait is over.
func late(c *cluster.Cluster) {
	for r := range 3 {
		c.Net().Clear(r)
	}
	for range wait + 1 {
		c.Tick()
	}
}

// P33.1: New: 1 to 10 tries; of no cluster or client there is none.
func TestNew(t *testing.T) {
	c, x := newCluster(t, usual()), newClient(t, 1, vault.Real([32]byte{1}))
	for _, tries := range []int{1, 2, 9, 10} {
		s, e := retry.New(c, x, tries)
		if e != api.OK || s == nil || s.Left() != 0 || s.Look() != 0 {
			t.Errorf("%d: error %d", tries, e)
		}
	}
	for _, tries := range []int{0, -1, 11, math.MaxInt, math.MinInt, 1<<32 + 1} {
		if s, e := retry.New(c, x, tries); e != api.ErrArg || s != nil {
			t.Errorf("%d: error %d", tries, e)
		}
	}
	for _, tries := range []int{0, 1, 11} {
		if s, e := retry.New(nil, x, tries); e != api.ErrArg || s != nil {
			t.Errorf("no cluster: error %d", e)
		}
		if s, e := retry.New(c, nil, tries); e != api.ErrArg || s != nil {
			t.Errorf("no client: error %d", e)
		}
		if s, e := retry.New(nil, nil, tries); e != api.ErrArg || s != nil {
			t.Errorf("neither: error %d", e)
		}
	}
}

// P33.1: the chapter's example.
func TestExample(t *testing.T) {
	s, c, _ := made(t, 2)
	c.Up(0, false)
	c.Up(1, false)
	puts(t, s, 0, name, "v", dot.Context{})
	gets(t, s, 1, name)
	c.Settle()
	for range 2 {
		for range wait + 1 {
			looks(t, "waits", s, 0, 2)
			c.Tick()
		}
		c.Settle()
		if s.Left() != 2 {
			t.Error("nobody has looked")
		}
		s.Look()
		c.Settle()
	}
	is(t, "Put", s, 0, retry.State{Put: true, Name: name, Tries: 2, Done: true, Err: api.ErrTimeout})
	is(t, "Get", s, 1, retry.State{Name: name, Tries: 2, Done: true, Err: api.ErrTimeout})
	looks(t, "again", s, 0, 0)
	if len(s.Sent(0)) != 2 || len(s.Sent(1)) != 0 {
		t.Errorf("%v, %v", s.Sent(0), s.Sent(1))
	}
}

// P33.1: what is done at its first try: a Get tells values, and what was seen; a Put what it is, and has seen.
func TestFirstTry(t *testing.T) {
	s, c, x := made(t, 1)
	puts(t, s, 0, name, "a", dot.Context{})
	gets(t, s, 1, name)
	is(t, "begun", s, 0, retry.State{Put: true, Name: name, Tries: 1})
	is(t, "begun", s, 1, retry.State{Name: name, Tries: 1})
	looks(t, "under way", s, 0, 2)
	c.Settle()
	is(t, "not noticed", s, 0, retry.State{Put: true, Name: name, Tries: 1})
	looks(t, "settled", s, 2, 0)
	a := client.Value{Dot: at(1, 1), Epoch: 1, Bytes: []byte("a")}
	is(t, "Put", s, 0, retry.State{Put: true, Name: name, Tries: 1, Done: true, Seen: past(a.Dot)})
	is(t, "Get", s, 1, retry.State{Name: name, Tries: 1, Done: true, Values: []client.Value{a}, Seen: past(a.Dot)})
	x.Rotate()
	puts(t, s, 2, name, "b", dot.Context{})
	if n, e := s.Put(name, []byte("not looked at"), true, past(a.Dot, at(7, 3))); n != 3 || e != api.OK {
		t.Fatalf("%d, error %d", n, e)
	}
	looks(t, "begun", s, 0, 2)
	c.Settle()
	gets(t, s, 4, name)
	gets(t, s, 5, []byte("other"))
	c.Settle()
	looks(t, "settled", s, 4, 0)
	b := client.Value{Dot: at(1, 2), Epoch: 2, Bytes: []byte("b")}
	gone := client.Value{Dot: at(1, 3), Epoch: 2, Past: past(a.Dot, at(7, 3)), Deleted: true}
	is(t, "b", s, 2, retry.State{Put: true, Name: name, Tries: 1, Done: true, Seen: past(b.Dot)})
	is(t, "gone", s, 3, retry.State{Put: true, Name: name, Tries: 1, Done: true, Seen: past(a.Dot, at(7, 3), gone.Dot)})
	is(t, "both", s, 4, retry.State{Name: name, Tries: 1, Done: true, Values: []client.Value{b, gone}, Seen: past(a.Dot, b.Dot, at(7, 3), gone.Dot)})
	is(t, "none", s, 5, retry.State{Name: []byte("other"), Tries: 1, Done: true})
}

// P33.1, P33.2: a Put that came too late is written anew, and has seen its tries ahead; who answers late isn't waited for.
func TestPutAgain(t *testing.T) {
	s, c, x := made(t, 4)
	puts(t, s, 0, name, "v", past(at(2, 5)))
	want := []sibling.Sibling{{Dot: at(1, 1), Past: past(at(2, 5))}}
	for n := 2; n <= 4; n++ {
		late(c)
		looks(t, "late", s, 0, 1)
		is(t, "again", s, 0, retry.State{Put: true, Name: name, Tries: n})
		last := want[len(want)-1]
		seen, _ := dot.Add(last.Past, last.Dot)
		want = append(want, sibling.Sibling{Dot: at(1, n), Past: seen})
		looks(t, "under way", s, 0, 1)
	}
	c.Settle()
	looks(t, "settled", s, 1, 0)
	is(t, "done", s, 0, retry.State{Put: true, Name: name, Tries: 4, Done: true, Seen: past(at(2, 5), at(1, 1), at(1, 2), at(1, 3), at(1, 4))})
	got := s.Sent(0)
	if len(got) != 4 {
		t.Fatalf("%d were sent", len(got))
	}
	for i, w := range want {
		if got[i].Dot != w.Dot || !dot.Same(got[i].Past, w.Past) {
			t.Errorf("try %d: %v, %v", i, got[i].Dot, got[i].Past)
		}
		l, passed, _ := x.Read(name, got[i:i+1])
		if passed != 0 || string(l[0].Bytes) != "v" || l[0].Deleted || l[0].Epoch != 1 {
			t.Errorf("try %d: %+v", i, l)
		}
	}
	if o, _ := c.Op(8); len(o.Set) != 1 || !sibling.Same(o.Set, got[3:]) {
		t.Errorf("the cluster was told %v", o.Set)
	}
}

// P33.1: what was deleted is deleted again.
func TestDeletedAgain(t *testing.T) {
	s, c, x := made(t, 2)
	if n, e := s.Put(name, []byte("v"), true, dot.Context{}); n != 0 || e != api.OK {
		t.Fatalf("%d, error %d", n, e)
	}
	late(c)
	looks(t, "late", s, 0, 1)
	l, passed, _ := x.Read(name, s.Sent(0))
	if len(l) != 2 || passed != 0 || !l[0].Deleted || !l[1].Deleted {
		t.Errorf("%+v", l)
	}
}

// P33.1: a Get that came too late is asked again.
func TestGetAgain(t *testing.T) {
	s, c, _ := made(t, 3)
	puts(t, s, 0, name, "v", dot.Context{})
	c.Settle()
	gets(t, s, 1, name)
	late(c)
	looks(t, "late", s, 1, 1)
	is(t, "again", s, 1, retry.State{Name: name, Tries: 2})
	late(c)
	looks(t, "late", s, 0, 1)
	for r := range 3 {
		if b, e := c.Net().Take(r, 0); e != api.OK {
			t.Errorf("replica %d is not asked", r)
		} else if m, _ := msg.Read(b); m.Kind != msg.Fetch || m.Ask != 8 {
			t.Errorf("replica %d is asked %+v", r, m)
		}
	}
	late(c)
	looks(t, "late", s, 1, 0)
	is(t, "done", s, 1, retry.State{Name: name, Tries: 3, Done: true, Err: api.ErrTimeout})
}

// P33.1: an answer to a try ahead isn't one of this try.
func TestElderTry(t *testing.T) {
	s, c, _ := made(t, 2)
	puts(t, s, 0, name, "v", dot.Context{})
	gets(t, s, 1, name)
	for range wait + 1 {
		c.Tick()
	}
	looks(t, "late", s, 0, 2)
	for r := range 3 { // the first try's messages alone come
		for range 2 {
			c.Deliver(r, 0)
		}
	}
	for c.Net().Len(3) > 0 {
		c.Deliver(3, 0)
	}
	looks(t, "the first try's answers", s, 0, 2)
	c.Settle()
	looks(t, "all", s, 2, 0)
	if st, _ := s.State(1); len(st.Values) != 1 || st.Values[0].Dot != at(1, 2) {
		t.Errorf("%+v", st)
	}
}

// P33.1: once a try can't be written any more, the operation is done with that error.
func TestRefusedAgain(t *testing.T) {
	s, c, x := made(t, 10)
	puts(t, s, 0, name, "own", past(at(1, 2))) // it has seen what the next try will be
	var full dot.Context
	for i := range 32 {
		full.More = append(full.More, at(2, 2*i+2))
	}
	full.Upto[0] = 4
	puts(t, s, 1, []byte("other"), "fits", dot.Context{More: full.More}) // its dot fills the gap of none: there is room
	late(c)
	looks(t, "late", s, 1, 1)
	is(t, "own", s, 0, retry.State{Put: true, Name: name, Tries: 1, Done: true, Err: api.ErrContext})
	is(t, "fits", s, 1, retry.State{Put: true, Name: []byte("other"), Tries: 2})
	if x.Sealed() != 3 || len(s.Sent(0)) != 1 || len(s.Sent(1)) != 2 {
		t.Errorf("sealed %d", x.Sealed())
	}
	x.Write([]byte("gap"), nil, false, dot.Context{})
	puts(t, s, 2, []byte("gap"), "full", dot.Context{More: full.More})
	late(c)
	looks(t, "late", s, 1, 1)
	is(t, "full", s, 2, retry.State{Put: true, Name: []byte("gap"), Tries: 1, Done: true, Err: api.ErrContext})
	late(c)
	looks(t, "late", s, 0, 1)
	is(t, "full", s, 2, retry.State{Put: true, Name: []byte("gap"), Tries: 1, Done: true, Err: api.ErrContext})
}

// P33.1: a number that another client of that number has used up.
func TestSpentAgain(t *testing.T) {
	v := vault.Real([32]byte{1})
	c, x, twin := newCluster(t, usual()), newClient(t, 1, v), newClient(t, 1, v)
	s, e := retry.New(c, x, 5)
	if e != api.OK {
		t.Fatal(e)
	}
	puts(t, s, 0, name, "v", dot.Context{})
	for range 3 { // the first one is spent, too
		twin.Write(name, nil, false, dot.Context{})
	}
	late(c)
	looks(t, "late", s, 1, 0)
	is(t, "spent", s, 0, retry.State{Put: true, Name: name, Tries: 1, Done: true, Err: api.ErrSpent})
	if len(s.Sent(0)) != 1 {
		t.Errorf("%d were sent", len(s.Sent(0)))
	}
	if n, e := s.Put(name, nil, false, dot.Context{}); n != 0 || e != api.ErrSpent {
		t.Errorf("%d, error %d", n, e)
	}
	puts(t, s, 1, name, "w", dot.Context{})
}

// P33.1: a Put that is done, whose dot its past has no room for, tells nothing of what was seen; so does a Get.
func TestSeenTooLarge(t *testing.T) {
	s, c, x := made(t, 1)
	var full dot.Context
	for i := range 32 {
		full.More = append(full.More, at(2, 2*i+2))
	}
	x.Write(name, nil, false, dot.Context{})
	puts(t, s, 0, name, "v", full)
	c.Settle()
	gets(t, s, 1, name)
	c.Settle()
	looks(t, "settled", s, 2, 0)
	is(t, "Put", s, 0, retry.State{Put: true, Name: name, Tries: 1, Done: true})
	is(t, "Get", s, 1, retry.State{Name: name, Tries: 1, Done: true, Values: []client.Value{{Dot: at(1, 2), Epoch: 1, Past: full, Bytes: []byte("v")}}})
}

// P33.1: a Get whose answers are more than a set has: that error, and nothing else.
func TestGetErrBig(t *testing.T) {
	s, c, x := made(t, 3)
	key, _ := x.Key(name)
	for r := range 2 {
		var l []sibling.Sibling
		for n := range 40 {
			l = append(l, sibling.Sibling{Dot: at(1+r, n+1)})
		}
		set, _ := sibling.Write(l)
		b, _ := msg.Write(msg.Msg{Kind: msg.Store, From: 3, Ask: 2, Row: msg.Row{Key: key, Set: set}})
		c.Net().Send(r, b)
	}
	c.Settle()
	gets(t, s, 0, name)
	c.Settle()
	looks(t, "settled", s, 1, 0)
	is(t, "too many", s, 0, retry.State{Name: name, Tries: 1, Done: true, Err: api.ErrBig})
}

// P33.1: of what can't be opened a Get tells no value, but that it was seen.
func TestClosed(t *testing.T) {
	s, c, x := made(t, 1)
	key, _ := x.Key(name)
	if _, e := c.Put(key, sibling.Sibling{Dot: at(5, 2), Body: []byte("closed")}); e != api.OK {
		t.Fatal(e)
	}
	puts(t, s, 0, name, "v", dot.Context{})
	c.Settle()
	gets(t, s, 1, name)
	c.Settle()
	looks(t, "settled", s, 2, 0)
	is(t, "Get", s, 1, retry.State{Name: name, Tries: 1, Done: true, Values: []client.Value{{Dot: at(1, 1), Epoch: 1, Bytes: []byte("v")}}, Seen: past(at(1, 1), at(5, 2))})
}

// P33.1: what Put and Get refuse: nothing begins.
func TestRefused(t *testing.T) {
	s, c, x := made(t, 3)
	for _, n := range noNames {
		if i, e := s.Put(n, nil, false, dot.Context{}); i != 0 || e != api.ErrArg {
			t.Errorf("Put of no name: %d, error %d", i, e)
		}
		if i, e := s.Get(n); i != 0 || e != api.ErrArg {
			t.Errorf("Get of no name: %d, error %d", i, e)
		}
	}
	for want, b := range map[api.Errno]struct {
		value []byte
		past  dot.Context
	}{
		api.ErrBig:     {make([]byte, 4000), dot.Context{}},
		api.ErrContext: {nil, past(at(1, 1))},
		api.ErrArg:     {nil, dot.Context{Upto: [16]int{-1}}},
	} {
		if i, e := s.Put(name, b.value, false, b.past); i != 0 || e != want {
			t.Errorf("Put: %d, error %d, want %d", i, e, want)
		}
	}
	if s.Left() != 0 || s.Look() != 0 || c.Net().Len(0) != 0 || x.Sealed() != 0 {
		t.Error("something has begun")
	}
	none, _ := retry.New(new(cluster.Cluster), x, 2)
	if i, e := none.Put(name, nil, false, dot.Context{}); i != 0 || e != api.ErrArg {
		t.Errorf("Put: %d, error %d", i, e)
	}
	if i, e := none.Get(name); i != 0 || e != api.ErrArg || none.Left() != 0 || none.Look() != 0 {
		t.Errorf("Get: %d, error %d", i, e)
	}
	nobody, _ := retry.New(c, new(client.Client), 2)
	if i, e := nobody.Put(name, nil, false, dot.Context{}); i != 0 || e != api.ErrArg {
		t.Errorf("Put: %d, error %d", i, e)
	}
	if i, e := nobody.Get(name); i != 0 || e != api.ErrArg || nobody.Left() != 0 {
		t.Errorf("Get: %d, error %d", i, e)
	}
	puts(t, s, 0, name, "first", dot.Context{})
	gets(t, s, 1, name)
}

// P33.1: of what there isn't: ErrMiss; nothing.
func TestMiss(t *testing.T) {
	s, _, _ := made(t, 3)
	puts(t, s, 0, name, "v", dot.Context{})
	gets(t, s, 1, name)
	for _, n := range []int{-1, 2, math.MaxInt, math.MinInt} {
		if st, e := s.State(n); e != api.ErrMiss || !sameState(st, retry.State{}) {
			t.Errorf("State of %d: %+v, error %d", n, st, e)
		}
		if l := s.Sent(n); len(l) != 0 {
			t.Errorf("Sent of %d: %v", n, l)
		}
	}
	if len(s.Sent(0)) != 1 || len(s.Sent(1)) != 0 {
		t.Errorf("%v, %v", s.Sent(0), s.Sent(1))
	}
}

// P1, P33.1: a nil session, and one that New didn't make.
func TestNil(t *testing.T) {
	for _, s := range []*retry.Session{nil, new(retry.Session)} {
		if n, e := s.Put(name, nil, false, dot.Context{}); n != 0 || e != api.ErrArg {
			t.Errorf("Put: %d, error %d", n, e)
		}
		if n, e := s.Get(name); n != 0 || e != api.ErrArg {
			t.Errorf("Get: %d, error %d", n, e)
		}
		for _, n := range []int{0, -1, 1} {
			if st, e := s.State(n); e != api.ErrArg || !sameState(st, retry.State{}) {
				t.Errorf("State: %+v, error %d", st, e)
			}
			if len(s.Sent(n)) != 0 {
				t.Error("Sent tells something")
			}
		}
		if s.Look() != 0 || s.Left() != 0 {
			t.Error("something is left")
		}
	}
}
