package script_test

import (
	"slices"
	"testing"

	"casket/api"
	"casket/client"
	"casket/dot"
	"casket/script"
)

func sweeps(client int, name []byte) script.Step {
	return script.Step{Kind: script.Sweep, Client: client, Name: name}
}

func rotate(client int) script.Step { return script.Step{Kind: script.Rotate, Client: client} }

// values: of the result so far from the end.
func values(s *script.System, behind int) []client.Value {
	r := s.Results()
	return r[len(r)-1-behind].Values
}

// P29.1: a Sweep puts anew what the last Get of its name told of elder epochs: a result each, of its step.
func TestSweep(t *testing.T) {
	for kind, s := range both(t) {
		does(t, s, put(1, name, "x", 0), put(1, name, "y", 0), script.Step{Kind: script.Delete, Client: 2, Name: name}, rotate(3), put(3, name, "z", 0), settle())
		does(t, s, get(1, name), settle(), rotate(2), sweeps(2, name))
		r := s.Results()
		if len(r) != 8 {
			t.Fatalf("%s: %d results", kind, len(r))
		}
		for _, i := range []int{5, 6, 7} {
			if want := (script.Result{Step: 9, Client: 2, Name: name, Put: true}); !sameResult(r[i], want) {
				t.Errorf("%s %d: %+v, want %+v", kind, i, r[i], want)
			}
		}
		does(t, s, settle(), get(3, name), settle())
		want := []client.Value{
			{Dot: at(2, 2), Epoch: 2, Past: past(at(1, 1)), Bytes: []byte("x")},
			{Dot: at(2, 3), Epoch: 2, Past: past(at(1, 2)), Bytes: []byte("y")},
			{Dot: at(2, 4), Epoch: 2, Past: past(at(2, 1)), Deleted: true},
			{Dot: at(3, 1), Epoch: 2, Bytes: []byte("z")},
		}
		if got := values(s, 0); !slices.EqualFunc(got, want, sameValue) {
			t.Errorf("%s: %+v, want %+v", kind, got, want)
		}
		if r := s.Results(); !r[5].Done || !r[6].Done || !r[7].Done || len(r) != 9 {
			t.Errorf("%s: %+v", kind, r)
		}
		for i := range 4 { // nothing of an elder epoch is left
			refuses(t, kind, api.OK, s, sweeps(1+i%3, name))
		}
	}
}

// P29.1: of no Get of its name that is done without an error there is nothing to sweep; a Get of another name, or of another client, is one for the client or not.
func TestSweepOfNone(t *testing.T) {
	s := made(t, usual())
	does(t, s, put(1, name, "x", 0), put(1, other, "y", 0), settle(), rotate(2))
	refuses(t, "no Get", api.OK, s, sweeps(2, name))
	does(t, s, get(2, other), settle())
	refuses(t, "a Get of another name", api.OK, s, sweeps(2, name))
	does(t, s, get(1, name))
	refuses(t, "a Get under way", api.OK, s, sweeps(2, name))
	for range 6 {
		does(t, s, script.Step{Kind: script.Tick})
	}
	does(t, s, settle())
	refuses(t, "a Get that came to nothing", api.OK, s, sweeps(2, name))
	does(t, s, get(1, name), settle())
	refuses(t, "an elder client", api.OK, s, sweeps(1, name))
	does(t, s, sweeps(2, name), settle(), get(1, name), settle())
	want := []client.Value{{Dot: at(2, 1), Epoch: 2, Past: past(at(1, 1)), Bytes: []byte("x")}}
	if got := values(s, 0); !slices.EqualFunc(got, want, sameValue) {
		t.Errorf("%+v, want %+v", got, want)
	}
	if s.Client(1).Sealed() != 2 || s.Client(2).Sealed() != 1 {
		t.Errorf("sealed %d, %d", s.Client(1).Sealed(), s.Client(2).Sealed())
	}
}

// P29.1: a later Get that came to nothing is none: what the one ahead of it told is swept.
func TestSweepBehindTimeout(t *testing.T) {
	s := made(t, usual())
	does(t, s, put(1, name, "x", 0), settle(), get(1, name), settle(), rotate(2), get(2, name))
	for range 6 {
		does(t, s, script.Step{Kind: script.Tick})
	}
	does(t, s, settle(), get(1, other), settle(), get(3, name), sweeps(2, name))
	r := s.Results()
	if len(r) != 6 || r[2].Err != api.ErrTimeout || r[4].Done || !r[5].Put || string(r[5].Name) != string(name) {
		t.Fatalf("%+v", r)
	}
	if o, _ := s.Cluster().Op(12); len(o.Set) != 1 || o.Set[0].Dot != at(2, 1) || !dot.Same(o.Set[0].Past, past(at(1, 1))) {
		t.Errorf("%+v", o)
	}
}

// P29.1: the last Get is that which began last, of those that are done without an error, whichever is done first.
func TestSweepOfLast(t *testing.T) {
	c := usual()
	c.Cluster.R, c.Cluster.W = 1, 1
	s := made(t, c)
	lose := func(boxes ...int) {
		t.Helper()
		for _, b := range boxes {
			does(t, s, script.Step{Kind: script.Lose, Box: b})
		}
	}
	does(t, s, put(1, name, "x", 0))
	lose(1, 2)
	deliver(t, s, 0)
	deliver(t, s, front)
	does(t, s, put(2, name, "y", 0))
	lose(0, 2)
	deliver(t, s, 1)
	deliver(t, s, front)
	does(t, s, get(1, name)) // that replica 1 answers, but later
	lose(0, 2)
	does(t, s, get(2, name)) // that replica 0 answers
	lose(2)
	does(t, s, script.Step{Kind: script.Lose, Box: 1, K: 1})
	deliver(t, s, 0)
	deliver(t, s, front)
	deliver(t, s, 1)
	deliver(t, s, front)
	r := s.Results()
	if !r[2].Done || r[2].Handle != 2 || r[2].Values[0].Dot != at(2, 1) || !r[3].Done || r[3].Handle != 1 || r[3].Values[0].Dot != at(1, 1) {
		t.Fatalf("%+v", r)
	}
	does(t, s, rotate(3), sweeps(3, name))
	r = s.Results()
	if len(r) != 5 {
		t.Fatalf("%d results", len(r))
	}
	o, e := s.Cluster().Op(10)
	if e != api.OK || len(o.Set) != 1 || !dot.Same(o.Set[0].Past, past(at(1, 1))) {
		t.Errorf("error %d, %+v", e, o)
	}
}

// loses: what waits first in each box.
func loses(t *testing.T, s *script.System) {
	t.Helper()
	for b := range 3 {
		does(t, s, script.Step{Kind: script.Lose, Box: b})
	}
}

// gaps: a client writes a name so often, and each other write is lost, from the first one on.
func gaps(t *testing.T, s *script.System, client int, name []byte, n int) {
	t.Helper()
	for range n {
		does(t, s, put(client, name, "lost", 0))
		loses(t, s)
		does(t, s, put(client, name, "x", 0), settle())
	}
}

// roomiest: the usual system, with room for many siblings.
func roomiest(t *testing.T) *script.System {
	t.Helper()
	c := usual()
	c.Cluster.Sectors = 8000
	return made(t, c)
}

// P29.1: what can't be said to be seen isn't swept: the error is told, there is no result, and the numbers of those ahead of it are used up.
func TestSweepErrContext(t *testing.T) {
	s := roomiest(t)
	gaps(t, s, 1, name, 32)
	does(t, s, get(3, name), settle(), put(2, name, "lost", 0))
	loses(t, s)
	does(t, s, put(1, name, "fits", 0), settle(), put(2, name, "full", 1), settle(), get(3, name), settle())
	got := values(s, 0)
	if len(got) != 2 || got[0].Dot != at(1, 65) || got[1].Dot != at(2, 2) || len(got[1].Past.More) != 32 {
		t.Fatalf("%+v", got)
	}
	for range 2 {
		does(t, s, rotate(3))
	}
	refuses(t, "full", api.ErrContext, s, sweeps(3, name))
	if s.Client(3).Sealed() != 1 || s.Cluster().Net().Len(0) != 0 {
		t.Errorf("sealed %d, %d messages", s.Client(3).Sealed(), s.Cluster().Net().Len(0))
	}
	does(t, s, put(3, name, "next", 0), settle(), get(3, name), settle())
	if got := values(s, 0); got[len(got)-1].Dot != at(3, 2) {
		t.Errorf("%+v", got)
	}
}

// P29.1: a handle has as much of what the values are and have seen as there is room for: one by one, in their order, each dot ahead of its past.
func TestHandleTooLarge(t *testing.T) {
	s := roomiest(t)
	gaps(t, s, 1, name, 40)
	does(t, s, put(2, name, "y", 0), settle(), get(3, name), settle())
	want := dot.Context{Upto: [16]int{1: 1}, More: evens(1, 2, 64)}
	isContext(t, "33 and more", s, 1, want)
	does(t, s, put(3, other, "y", 1), settle(), get(3, other), settle())
	isContext(t, "a past that has room, beside its dot", s, 2, dot.Context{Upto: [16]int{1: 1, 2: 1}, More: want.More})
}

// P29.1: a past that closes a gap makes room for what comes behind it, but not for its own dot, nor for what was passed over ahead.
func TestHandlePasts(t *testing.T) {
	s := roomiest(t)
	gaps(t, s, 1, name, 33)
	does(t, s, put(1, other, "a", 0), settle(), get(2, other), settle())
	isContext(t, "of the other name", s, 1, past(at(1, 1)))
	for _, client := range []int{2, 3} {
		does(t, s, put(client, name, "lost", 0))
		loses(t, s)
	}
	does(t, s, put(2, name, "y", 1), put(3, name, "z", 0), settle(), get(1, name), settle())
	if got := values(s, 0); len(got) != 35 || got[33].Dot != at(2, 2) || !dot.Same(got[33].Past, past(at(1, 1))) || got[34].Dot != at(3, 2) {
		t.Fatalf("%+v", got)
	}
	isContext(t, "pasts", s, 2, dot.Context{Upto: [16]int{2}, More: append(evens(1, 4, 64), at(3, 2))})
}

// P29.1: a past that there is no room for is passed over; what was joined ahead of it stays.
func TestHandlePastTooLarge(t *testing.T) {
	s := roomiest(t)
	gaps(t, s, 1, name, 32)
	gaps(t, s, 2, other, 32)
	does(t, s, get(1, name), get(1, other), settle(), put(2, name, "y", 1), put(3, name, "z", 2), settle(), get(1, name), settle())
	if got := values(s, 0); len(got) != 2 || len(got[0].Past.More) != 32 || len(got[1].Past.More) != 32 {
		t.Fatalf("%+v", got)
	}
	isContext(t, "two pasts", s, 3, dot.Context{Upto: [16]int{1: 1, 2: 1}, More: evens(1, 2, 64)})
}

// evens: dots of each other number.
func evens(client, first, last int) []api.Dot {
	var out []api.Dot
	for n := first; n <= last; n += 2 {
		out = append(out, at(client, n))
	}
	return out
}
