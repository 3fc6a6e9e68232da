package audit_test

import (
	"bytes"
	"math"
	"slices"
	"testing"

	"casket/api"
	"casket/audit"
	"casket/cluster"
	"casket/msg"
	"casket/script"
	"casket/sibling"
	"casket/vault"
	"casket/view"
)

const front = 3 // the usual system's box of who asks

// usual: three replicas, that each have all.
func usual() script.Config {
	c := cluster.Config{Replicas: 3, Points: 3, N: 3, R: 2, W: 2, Wait: 5, Sectors: 600}
	return script.Config{Cluster: c, Clients: 3, Ideal: true, Seed: [32]byte{3, 1}}
}

func made(t *testing.T, c script.Config) *script.System {
	t.Helper()
	s, e := script.New(c)
	if e != api.OK {
		t.Fatalf("New: error %d", e)
	}
	return s
}

// both: a system of each kind of vault.
func both(t *testing.T) map[string]*script.System {
	t.Helper()
	real := usual()
	real.Ideal = false
	return map[string]*script.System{"ideal": made(t, usual()), "real": made(t, real)}
}

func does(t *testing.T, s *script.System, l ...script.Step) {
	t.Helper()
	for i, x := range l {
		if e := s.Do(x); e != api.OK {
			t.Fatalf("step %d (%+v): error %d", i, x, e)
		}
	}
}

func put(client int, name, value string, handle int) script.Step {
	return script.Step{Kind: script.Put, Client: client, Name: []byte(name), Value: []byte(value), Handle: handle}
}

func get(client int, name string) script.Step {
	return script.Step{Kind: script.Get, Client: client, Name: []byte(name)}
}

func settle() script.Step { return script.Step{Kind: script.Settle} }

func rotate(client int) script.Step { return script.Step{Kind: script.Rotate, Client: client} }

func lose(box int) script.Step { return script.Step{Kind: script.Lose, Box: box} }

func namesOf(l ...string) [][]byte {
	var out [][]byte
	for _, n := range l {
		out = append(out, []byte(n))
	}
	return out
}

func keyOf(t *testing.T, s *script.System, name string) api.Blind {
	t.Helper()
	key, e := s.Client(1).Key([]byte(name))
	if e != api.OK {
		t.Fatalf("%q: error %d", name, e)
	}
	return key
}

// finds: just these.
func finds(t *testing.T, what string, s *script.System, id int, names [][]byte, want ...audit.Finding) {
	t.Helper()
	if got := audit.Look(s, id, names); !slices.Equal(got, want) {
		t.Errorf("%s: %v, want %v", what, got, want)
	}
}

// keep: a replica is told siblings of a key, as the adversary likes.
func keep(t *testing.T, s *script.System, r int, key api.Blind, l ...sibling.Sibling) {
	t.Helper()
	set, e := sibling.Write(l)
	if e != api.OK {
		t.Fatalf("no set: error %d", e)
	}
	raw, e := msg.Write(msg.Msg{Kind: msg.Store, From: front, Ask: 2, Row: msg.Row{Key: key, Set: set}})
	if e != api.OK {
		t.Fatalf("no message: error %d", e)
	}
	if e := s.Cluster().Net().Send(r, raw); e != api.OK {
		t.Fatalf("not sent: error %d", e)
	}
	does(t, s, settle())
}

// P31.1: the chapter's example.
func TestNew(t *testing.T) {
	for kind, s := range both(t) {
		finds(t, kind, s, 1, nil)
		finds(t, kind, s, 3, namesOf("a", "b"))
	}
}

// P31.1: a key that no name has, at each replica, rising by replica, then by key; by its name it isn't strange.
func TestStrange(t *testing.T) {
	for kind, s := range both(t) {
		does(t, s, put(1, "b", "x", 0), put(2, "a", "y", 0), settle())
		low, high := keyOf(t, s, "a"), keyOf(t, s, "b")
		if bytes.Compare(low[:], high[:]) > 0 {
			low, high = high, low
		}
		var want []audit.Finding
		for r := range 3 {
			want = append(want, audit.Finding{Replica: r, Kind: 1, Key: low}, audit.Finding{Replica: r, Kind: 1, Key: high})
		}
		for id := 1; id <= 3; id++ {
			finds(t, kind, s, id, nil, want...)
			finds(t, kind, s, id, [][]byte{}, want...)
			finds(t, kind, s, id, namesOf("c", "", "ab", string(make([]byte, 65))), want...)
			finds(t, kind, s, id, namesOf("a", "b"))
			finds(t, kind, s, id, namesOf("c", "b", "a", "b", "", "a"))
		}
		want = slices.DeleteFunc(want, func(f audit.Finding) bool { return f.Key == keyOf(t, s, "b") })
		finds(t, kind, s, 1, namesOf("b"), want...)
	}
}

// P31.1: what isn't a name has no key, also not that of noughts.
func TestNoughts(t *testing.T) {
	s := made(t, usual())
	keep(t, s, 1, api.Blind{}, sibling.Sibling{Dot: api.Dot{Client: 1, Number: 1}})
	finds(t, "noughts", s, 1, [][]byte{nil, {}, make([]byte, 65)}, audit.Finding{Replica: 1, Kind: audit.Strange})
}

// P31.1: siblings that aren't what was sealed for that name.
func TestClosed(t *testing.T) {
	for kind, s := range both(t) {
		does(t, s, put(1, "a", "x", 0), put(1, "b", "y", 0), settle())
		a := keyOf(t, s, "a")
		foreign := s.Cluster().Replica(0).Shelf().Get(keyOf(t, s, "b"))[0]
		foreign.Dot.Number = 2
		keep(t, s, 1, a, foreign)
		finds(t, kind, s, 2, namesOf("a", "b"),
			audit.Finding{Replica: 0, Kind: 4, Key: a},
			audit.Finding{Replica: 1, Kind: 2, Key: a}, audit.Finding{Replica: 1, Kind: 4, Key: a},
			audit.Finding{Replica: 2, Kind: 4, Key: a})
		for _, r := range []int{0, 2} {
			keep(t, s, r, a, foreign)
		}
		keep(t, s, 2, a, sibling.Sibling{Dot: api.Dot{Client: 9, Number: 9}, Body: []byte("closed")})
		finds(t, kind, s, 2, namesOf("a", "b"),
			audit.Finding{Replica: 0, Kind: 2, Key: a}, audit.Finding{Replica: 0, Kind: 4, Key: a},
			audit.Finding{Replica: 1, Kind: 2, Key: a}, audit.Finding{Replica: 1, Kind: 4, Key: a},
			audit.Finding{Replica: 2, Kind: 2, Key: a}, audit.Finding{Replica: 2, Kind: 4, Key: a})
	}
}

// P31.1: a value of an epoch below the client's own; each client has its own.
func TestElder(t *testing.T) {
	for kind, s := range both(t) {
		does(t, s, rotate(2), put(1, "a", "x", 0), put(2, "a", "y", 0), put(2, "b", "z", 0), settle())
		a, b := keyOf(t, s, "a"), keyOf(t, s, "b")
		want := func(l ...api.Blind) []audit.Finding {
			slices.SortFunc(l, func(x, y api.Blind) int { return bytes.Compare(x[:], y[:]) })
			var out []audit.Finding
			for r := range 3 {
				for _, key := range l {
					out = append(out, audit.Finding{Replica: r, Kind: audit.Elder, Key: key})
				}
			}
			return out
		}
		finds(t, kind, s, 1, namesOf("a", "b"))
		finds(t, kind, s, 2, namesOf("a", "b"), want(a)...)
		does(t, s, rotate(2), rotate(3))
		finds(t, kind, s, 1, namesOf("a", "b"))
		finds(t, kind, s, 2, namesOf("a", "b"), want(a, b)...)
		finds(t, kind, s, 3, namesOf("a", "b"), want(a)...)
		var strange []audit.Finding // of another one's name there is nobody who could tell
		for _, f := range want(b) {
			strange = append(strange, audit.Finding{Replica: f.Replica, Kind: audit.Strange, Key: b})
		}
		for _, f := range want(a) {
			strange = append(strange, f)
		}
		slices.SortFunc(strange, func(x, y audit.Finding) int { return 10*(x.Replica-y.Replica) + x.Kind - y.Kind })
		finds(t, kind, s, 3, namesOf("a"), strange...)
	}
}

// P31.1: siblings that another replica has otherwise; one that has none of that key says nothing.
func TestApart(t *testing.T) {
	for kind, s := range both(t) {
		does(t, s, put(1, "a", "x", 0), lose(0), lose(2), settle())
		a := keyOf(t, s, "a")
		finds(t, kind, s, 1, namesOf("a"))
		does(t, s, put(2, "a", "y", 0), lose(2), settle())
		want := []audit.Finding{{Replica: 0, Kind: audit.Apart, Key: a}, {Replica: 1, Kind: audit.Apart, Key: a}}
		finds(t, kind, s, 1, namesOf("a"), want...)
		finds(t, kind, s, 1, nil,
			audit.Finding{Replica: 0, Kind: 1, Key: a}, audit.Finding{Replica: 0, Kind: 4, Key: a},
			audit.Finding{Replica: 1, Kind: 1, Key: a}, audit.Finding{Replica: 1, Kind: 4, Key: a})
		does(t, s, put(1, "b", "z", 0), lose(0), lose(1), settle())
		finds(t, kind, s, 3, namesOf("a", "b"), want...)
		does(t, s, script.Step{Kind: script.Compare, Box: 1, K: 2}, settle())
		finds(t, kind, s, 3, namesOf("a", "b"), append(want, audit.Finding{Replica: 2, Kind: audit.Apart, Key: a})[:3]...)
		does(t, s, get(1, "a"), lose(2), settle())
		finds(t, kind, s, 3, namesOf("a", "b"))
	}
}

// P31.1: one that has the same as one replica, and other ones than another, is apart.
func TestApartOfOne(t *testing.T) {
	for kind, s := range both(t) {
		does(t, s, put(1, "a", "x", 0), settle(), put(1, "a", "y", 0), lose(0), lose(1), settle())
		a := keyOf(t, s, "a")
		finds(t, kind, s, 1, namesOf("a"),
			audit.Finding{Replica: 0, Kind: 4, Key: a}, audit.Finding{Replica: 1, Kind: 4, Key: a}, audit.Finding{Replica: 2, Kind: 4, Key: a})
		body := sibling.Sibling{Dot: api.Dot{Client: 1, Number: 7}, Body: []byte("b")}
		s := made(t, usual())
		keep(t, s, 0, a, body)
		keep(t, s, 1, a, body)
		finds(t, "same", s, 1, nil, audit.Finding{Replica: 0, Kind: 1, Key: a}, audit.Finding{Replica: 1, Kind: 1, Key: a})
		body.Body = []byte("c")
		keep(t, s, 2, a, body) // of the same dot, but not the same
		finds(t, "body", s, 1, nil,
			audit.Finding{Replica: 0, Kind: 1, Key: a}, audit.Finding{Replica: 0, Kind: 4, Key: a},
			audit.Finding{Replica: 1, Kind: 1, Key: a}, audit.Finding{Replica: 1, Kind: 4, Key: a},
			audit.Finding{Replica: 2, Kind: 1, Key: a}, audit.Finding{Replica: 2, Kind: 4, Key: a})
	}
}

// P31.1: hints are no keys of a shelf.
func TestHints(t *testing.T) {
	c := usual()
	c.Cluster.N, c.Cluster.R, c.Cluster.W = 1, 1, 1
	s := made(t, c)
	key := keyOf(t, s, "a")
	does(t, s, put(1, "a", "x", 0), settle(), put(1, "a", "y", 0))
	first := 0
	for s.Cluster().Net().Len(first) == 0 {
		first++
	}
	does(t, s, settle(), script.Step{Kind: script.Down, Box: first}, put(1, "a", "z", 0), settle())
	hints := 0
	for r := range 3 {
		hints += len(s.Cluster().Replica(r).Shelf().Hints(first))
	}
	if hints != 1 {
		t.Fatalf("%d hints", hints)
	}
	finds(t, "hints", s, 1, nil, audit.Finding{Replica: first, Kind: audit.Strange, Key: key})
	finds(t, "hints", s, 1, namesOf("a"))
}

// P31.1: what a replica without power keeps is told, too.
func TestDown(t *testing.T) {
	s := made(t, usual())
	does(t, s, put(1, "a", "x", 0), settle(), script.Step{Kind: script.Fuse, Box: 1, K: 1}, put(1, "b", "y", 0), settle())
	a, b := keyOf(t, s, "a"), keyOf(t, s, "b")
	f := func(r int, key api.Blind) audit.Finding { return audit.Finding{Replica: r, Kind: 1, Key: key} }
	finds(t, "without power", s, 1, nil, f(0, a), f(0, b), f(1, a), f(2, a), f(2, b))
}

// P1, P31.1: of no such client, and of no system, there is nothing.
func TestNone(t *testing.T) {
	s := made(t, usual())
	does(t, s, put(1, "a", "x", 0), settle())
	for _, id := range []int{0, -1, 4, 16, 17, math.MaxInt, math.MinInt} {
		finds(t, "no client", s, id, nil)
		finds(t, "no client", s, id, namesOf("b"))
	}
	for id := range 5 {
		finds(t, "no system", nil, id, namesOf("a"))
		finds(t, "no system", new(script.System), id, namesOf("a"))
	}
}

// P31.1: names are asked for one by one, in their order, and nothing else of the vault, nor of what is kept, is touched.
func TestAsksForNames(t *testing.T) {
	s, v := made(t, usual()), vault.Ideal(usual().Seed)
	does(t, s, put(1, "a", "x", 0), settle())
	finds(t, "asked", s, 2, [][]byte{[]byte("c"), nil, []byte("a"), make([]byte, 65), []byte("b"), []byte("c")})
	for _, n := range []string{"a", "c", "b", "d"} {
		want, _ := v.Blind([]byte(n))
		if keyOf(t, s, n) != want {
			t.Errorf("%q has another key", n)
		}
	}
}

// P31.1: a look changes nothing.
func TestChangesNothing(t *testing.T) {
	for kind, s := range both(t) {
		does(t, s, put(1, "a", "x", 0), settle(), put(1, "a", "y", 0), lose(0), put(1, "b", "y", 0), rotate(2), get(2, "a"))
		var was [][]byte
		for r := range 3 {
			was = append(was, view.Of(s, r))
		}
		waiting := s.Cluster().Net().Len(1)
		sealed, results := s.Client(2).Sealed(), len(s.Results())
		first := audit.Look(s, 2, namesOf("a"))
		if len(first) == 0 {
			t.Errorf("%s: nothing is found", kind)
		}
		finds(t, kind, s, 2, namesOf("a"), first...)
		for r := range 3 {
			if !bytes.Equal(view.Of(s, r), was[r]) {
				t.Errorf("%s: replica %d is another one", kind, r)
			}
		}
		if s.Cluster().Net().Len(1) != waiting || s.Client(2).Sealed() != sealed || s.Client(2).Epoch() != 2 || len(s.Results()) != results {
			t.Errorf("%s: something was changed", kind)
		}
	}
}

// P31.4: answers are new memory, and the names aren't kept or changed.
func TestMemory(t *testing.T) {
	s := made(t, usual())
	does(t, s, put(1, "aa", "x", 0), put(1, "bb", "x", 0), settle())
	names := append(namesOf("aa", "cc"), []byte("behind"))[:2]
	for i := range names {
		names[i] = names[i][:1]
	}
	first := audit.Look(s, 1, names)
	want := slices.Clone(first)
	if len(want) != 6 || string(names[0][:2]) != "aa" || string(names[1][:2]) != "cc" || string(names[:3][2]) != "behind" {
		t.Errorf("%v; names are %q", want, names[:3])
	}
	clear(first[:cap(first)])
	names[0][0], names[1][0] = 'x', 'y'
	finds(t, "again", s, 1, namesOf("a", "c"), want...)
}
