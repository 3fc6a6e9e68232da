package script_test

import (
	"bytes"
	"slices"
	"testing"

	"casket/api"
	"casket/client"
	"casket/dot"
	"casket/msg"
	"casket/script"
)

// roomy: b with spare room behind it, and a look whether any of it was changed.
func roomy(b []byte) ([]byte, func() bool) {
	whole := append(slices.Clone(b), bytes.Repeat([]byte{0xee}, 80)...)
	was := slices.Clone(whole)
	return whole[:len(b)], func() bool { return !bytes.Equal(whole, was) }
}

// spoil writes over bytes, and behind them.
func spoil(b []byte) {
	for i := range b {
		b[i] ^= 0x55
	}
	_ = append(b, 1, 2, 3)
}

func spoilDots(l []api.Dot) {
	for i := range l {
		l[i] = at(66, 66)
	}
	_ = append(l, at(66, 67))
}

// lent: the step with lists of its own, and a look whether any was changed; then they are written over.
func lent(t *testing.T, s *script.System, x script.Step, want api.Errno) {
	t.Helper()
	var changed [3]func() bool
	x.Name, changed[0] = roomy(x.Name)
	x.Value, changed[1] = roomy(x.Value)
	x.Raw, changed[2] = roomy(x.Raw)
	stay := append(slices.Clone(x.Stay), true, false, true)
	x.Stay = stay[:len(x.Stay)]
	was := slices.Clone(stay)
	if e := s.Do(x); e != want {
		t.Errorf("kind %d: error %d, want %d", x.Kind, e, want)
	}
	for i, is := range changed {
		if is() {
			t.Errorf("kind %d: list %d was changed", x.Kind, i)
		}
	}
	if !slices.Equal(stay, was) {
		t.Errorf("kind %d: Stay was changed", x.Kind)
	}
	spoil(x.Name)
	spoil(x.Value)
	spoil(x.Raw)
	for i := range x.Stay {
		x.Stay[i] = !x.Stay[i]
	}
}

// P29.4: what steps are handed isn't changed and not kept.
func TestStepMemory(t *testing.T) {
	for kind, s := range both(t) {
		lent(t, s, put(1, name, "x", 0), api.OK)
		lent(t, s, put(2, name, "y", 0), api.OK)
		lent(t, s, settle(), api.OK)
		lent(t, s, get(1, name), api.OK)
		lent(t, s, put(3, other, "z", 0), api.OK)
		lent(t, s, settle(), api.OK)
		lent(t, s, script.Step{Kind: script.Delete, Client: 1, Name: name, Value: []byte("v"), Handle: 1}, api.OK)
		lent(t, s, settle(), api.OK)
		lent(t, s, get(2, name), api.OK)
		raw, _ := msg.Write(msg.Msg{Kind: msg.Fetch, From: front, Ask: 12})
		lent(t, s, script.Step{Kind: script.Forge, Box: 2, K: 0, Raw: raw}, api.OK)
		if b := s.Cluster().Net(); b.Len(2) != 1 {
			t.Errorf("%s: %d messages", kind, b.Len(2))
		} else if got, _ := b.Take(2, 0); !bytes.Equal(got, raw) {
			t.Errorf("%s: %x was forged, want %x", kind, got, raw)
		}
		lent(t, s, settle(), api.OK)
		lent(t, s, script.Step{Kind: script.Crash, Box: 1, Stay: []bool{true, false}}, api.OK)
		lent(t, s, script.Step{Kind: script.Rotate, Client: 2}, api.OK)
		lent(t, s, sweeps(2, name), api.OK)
		lent(t, s, settle(), api.OK)
		lent(t, s, get(1, name), api.OK)
		lent(t, s, settle(), api.OK)
		lent(t, s, script.Step{Kind: 99, Name: name}, api.ErrArg)
		x := client.Value{Dot: at(1, 1), Epoch: 1, Bytes: []byte("x")}
		y := client.Value{Dot: at(2, 1), Epoch: 1, Bytes: []byte("y")}
		gone := client.Value{Dot: at(1, 2), Epoch: 1, Past: past(x.Dot, y.Dot), Deleted: true}
		anew := client.Value{Dot: at(2, 2), Epoch: 2, Past: past(x.Dot, y.Dot, gone.Dot), Deleted: true}
		results(t, kind, s,
			script.Result{Step: 0, Client: 1, Name: name, Put: true, Done: true},
			script.Result{Step: 1, Client: 2, Name: name, Put: true, Done: true},
			script.Result{Step: 3, Client: 1, Name: name, Done: true, Handle: 1, Values: []client.Value{x, y}},
			script.Result{Step: 4, Client: 3, Name: other, Put: true, Done: true},
			script.Result{Step: 6, Client: 1, Name: name, Put: true, Done: true},
			script.Result{Step: 8, Client: 2, Name: name, Done: true, Handle: 2, Values: []client.Value{gone}},
			script.Result{Step: 13, Client: 2, Name: name, Put: true, Done: true},
			script.Result{Step: 15, Client: 1, Name: name, Done: true, Handle: 3, Values: []client.Value{anew}})
	}
}

// P29.4: answers share no memory with the system, nor with each other.
func TestAnswerMemory(t *testing.T) {
	for kind, s := range both(t) {
		does(t, s, put(1, name, "lost", 0))
		for b := range 3 {
			does(t, s, script.Step{Kind: script.Lose, Box: b})
		}
		does(t, s, put(1, name, "x", 0), settle(), get(2, name), settle(), put(2, name, "y", 1), put(3, name, "z", 1), settle(), get(3, name), settle(), get(3, name), settle())
		seen := dot.Context{More: []api.Dot{at(1, 2)}}
		y := func() client.Value {
			return client.Value{Dot: at(2, 1), Epoch: 1, Past: dot.Context{More: slices.Clone(seen.More)}, Bytes: []byte("y")}
		}
		z := func() client.Value {
			return client.Value{Dot: at(3, 1), Epoch: 1, Past: dot.Context{More: slices.Clone(seen.More)}, Bytes: []byte("z")}
		}
		want := func() []script.Result {
			return []script.Result{
				{Step: 0, Client: 1, Name: slices.Clone(name), Put: true},
				{Step: 4, Client: 1, Name: slices.Clone(name), Put: true, Done: true},
				{Step: 6, Client: 2, Name: slices.Clone(name), Done: true, Handle: 1, Values: []client.Value{{Dot: at(1, 2), Epoch: 1, Bytes: []byte("x")}}},
				{Step: 8, Client: 2, Name: slices.Clone(name), Put: true, Done: true},
				{Step: 9, Client: 3, Name: slices.Clone(name), Put: true, Done: true},
				{Step: 11, Client: 3, Name: slices.Clone(name), Done: true, Handle: 2, Values: []client.Value{y(), z()}},
				{Step: 13, Client: 3, Name: slices.Clone(name), Done: true, Handle: 3, Values: []client.Value{y(), z()}},
			}
		}
		for round := range 3 {
			l := s.Results()
			for i, w := range want() {
				if !sameResult(l[i], w) {
					t.Fatalf("%s, round %d, %d: %+v, want %+v", kind, round, i, l[i], w)
				}
				spoil(l[i].Name)
				for k := range l[i].Values {
					if got, w := l[i].Values[k], w.Values[k]; !sameValue(got, w) {
						t.Fatalf("%s, round %d, %d: value %d is %+v, want %+v", kind, round, i, k, got, w)
					}
					spoil(l[i].Values[k].Bytes)
					spoilDots(l[i].Values[k].Past.More)
				}
				_ = append(l[i].Values, client.Value{})
			}
			handle := dot.Context{Upto: [16]int{1: 1, 2: 1}, More: []api.Dot{at(1, 2)}}
			for h := 1; h <= 3; h++ {
				got, again := s.Context(h), s.Context(h)
				if h == 1 && !dot.Same(got, seen) || h > 1 && !dot.Same(got, handle) {
					t.Errorf("%s, round %d: handle %d is %v", kind, round, h, got)
				}
				spoilDots(got.More)
				if dot.Same(got, again) {
					t.Errorf("%s, round %d: two answers share memory", kind, round)
				}
			}
		}
		does(t, s, put(1, name, "end", 3), settle(), get(1, name), settle())
		end := []client.Value{{Dot: at(1, 3), Epoch: 1, Past: dot.Context{Upto: [16]int{1: 1, 2: 1}, More: []api.Dot{at(1, 2)}}, Bytes: []byte("end")}}
		if got := values(s, 0); !slices.EqualFunc(got, end, sameValue) {
			t.Errorf("%s: %+v, want %+v", kind, got, end)
		}
	}
}
