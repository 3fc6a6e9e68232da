package sibling_test

import (
	"bytes"
	"crypto/sha256"
	"encoding/binary"
	"math"
	"math/rand/v2"
	"slices"
	"testing"

	"casket/api"
	"casket/dot"
	"casket/sibling"
)

const (
	most     = 1 << 40 // a dot's greatest Number
	mostBody = 16384
)

func at(client, number int) api.Dot {
	return api.Dot{Client: client, Number: number}
}

// upto: a context of all of one client's up to a number, and of more.
func upto(client, n int, more ...api.Dot) dot.Context {
	var c dot.Context
	c.Upto[client-1] = n
	c.More = more
	return c
}

// pastOf: the context of dots.
func pastOf(dots ...api.Dot) dot.Context {
	var c dot.Context
	for _, d := range dots {
		c, _ = dot.Add(c, d)
	}
	return c
}

// one: a write of some body, that has seen these dots.
func one(d api.Dot, body string, seen ...api.Dot) sibling.Sibling {
	return sibling.Sibling{Dot: d, Past: pastOf(seen...), Body: []byte(body)}
}

// every: count dots of one client, of every second number, from first on.
func every(client, first, count int) []api.Dot {
	var out []api.Dot
	for i := range count {
		out = append(out, at(client, first+2*i))
	}
	return out
}

// many: siblings that have seen nothing: of so many clients, from a first one on, so many each.
func many(first, clients, each int) []sibling.Sibling {
	var out []sibling.Sibling
	for client := first; client < first+clients; client++ {
		for n := range each {
			out = append(out, one(at(client, n+1), string(rune('a'+n))))
		}
	}
	return out
}

// changed: a list with its i-th sibling changed.
func changed(l []sibling.Sibling, i int, change func(s *sibling.Sibling)) []sibling.Sibling {
	out := copied(l)
	change(&out[i])
	return out
}

// copied: a list that shares nothing.
func copied(l []sibling.Sibling) []sibling.Sibling {
	out := slices.Clone(l)
	for i, s := range out {
		out[i].Past.More = slices.Clone(s.Past.More)
		out[i].Body = slices.Clone(s.Body)
	}
	return out
}

// equal: are both the same? As the tests ask it, not as Same tells it.
func equal(a, b []sibling.Sibling) bool {
	if len(a) != len(b) {
		return false
	}
	for i, s := range a {
		if !equalOne(s, b[i]) {
			return false
		}
	}
	return true
}

func equalOne(s, o sibling.Sibling) bool {
	return s.Dot == o.Dot && s.Past.Upto == o.Past.Upto && slices.Equal(s.Past.More, o.Past.More) && string(s.Body) == string(o.Body)
}

// told: an answer is this list, with this error; with one it is nothing.
func told(t *testing.T, what string, got []sibling.Sibling, e api.Errno, want []sibling.Sibling, wantErr api.Errno) {
	t.Helper()
	if wantErr != api.OK {
		want = nil
	}
	if !equal(got, want) || e != wantErr {
		t.Errorf("%s: %d siblings, error %d, want %d, error %d", what, len(got), e, len(want), wantErr)
	}
}

// wrong: what isn't a set, and what Check tells of it.
type wrong struct {
	what string
	l    []sibling.Sibling
	e    api.Errno
}

// spoilers: what makes a sibling none.
func spoilers() map[string]func(s *sibling.Sibling) {
	out := map[string]func(s *sibling.Sibling){
		"no dot":           func(s *sibling.Sibling) { s.Dot = api.Dot{} },
		"client 0":         func(s *sibling.Sibling) { s.Dot.Client = 0 },
		"client 17":        func(s *sibling.Sibling) { s.Dot.Client = 17 },
		"client least":     func(s *sibling.Sibling) { s.Dot.Client = math.MinInt },
		"client most":      func(s *sibling.Sibling) { s.Dot.Client = math.MaxInt },
		"number 0":         func(s *sibling.Sibling) { s.Dot.Number = 0 },
		"number -1":        func(s *sibling.Sibling) { s.Dot.Number = -1 },
		"number above":     func(s *sibling.Sibling) { s.Dot.Number = most + 1 },
		"number most":      func(s *sibling.Sibling) { s.Dot.Number = math.MaxInt },
		"past below 0":     func(s *sibling.Sibling) { s.Past = upto(16, -1) },
		"past above":       func(s *sibling.Sibling) { s.Past = upto(16, most+1) },
		"past not rising":  func(s *sibling.Sibling) { s.Past.More = []api.Dot{at(16, 900), at(16, 800)} },
		"past twice":       func(s *sibling.Sibling) { s.Past.More = []api.Dot{at(16, 900), at(16, 900)} },
		"past not short":   func(s *sibling.Sibling) { s.Past = upto(16, 0, at(16, 1)) },
		"past of no dot":   func(s *sibling.Sibling) { s.Past.More = []api.Dot{{}} },
		"past too large":   func(s *sibling.Sibling) { s.Past = dot.Context{More: every(16, 800, 33)} }, // dot.Check tells ErrContext of it
		"its own, in Upto": func(s *sibling.Sibling) { s.Past = upto(s.Dot.Client, s.Dot.Number) },
		"long body":        func(s *sibling.Sibling) { s.Body = make([]byte, mostBody+1) },
		"longer body":      func(s *sibling.Sibling) { s.Body = make([]byte, 100_000) },
		"its own, in More": func(s *sibling.Sibling) {
			s.Dot.Number += 500
			s.Past = pastOf(s.Dot)
		},
		"its own, in a full past": func(s *sibling.Sibling) {
			s.Dot.Number += 500
			s.Past = dot.Context{More: every(s.Dot.Client, s.Dot.Number, 32)}
		},
	}
	return out
}

func noSets() []wrong {
	some := []sibling.Sibling{one(at(2, 3), "a"), one(at(2, 5), "b", at(2, 1)), one(at(7, 1), "c"), one(at(7, 2), "")}
	seen := changed(some, 0, func(s *sibling.Sibling) { s.Past = pastOf(at(7, 1)) })
	var out []wrong
	for what, spoil := range spoilers() {
		for i := range some {
			out = append(out, wrong{what, changed(some, i, spoil), api.ErrArg})
			out = append(out, wrong{what + ", and one is seen", changed(seen, i, spoil), api.ErrArg})
		}
		out = append(out, wrong{what + ", alone", changed(some[1:2], 0, spoil), api.ErrArg})
		out = append(out, wrong{what + ", of 65", changed(many(1, 13, 5), 0, spoil), api.ErrBig})
		out = append(out, wrong{what + ", the 64th", changed(many(1, 16, 4), 63, spoil), api.ErrArg})
	}
	for what, l := range map[string][]sibling.Sibling{
		"one twice":           {some[0], some[0]},
		"falling numbers":     {some[1], some[0]},
		"falling clients":     {some[2], some[0]},
		"falling, of numbers": {some[2], some[1]},
		"one twice, last":     append(copied(some), some[3]),
		"falling, last":       append(copied(some), some[2]),
	} {
		out = append(out, wrong{what, l, api.ErrArg})
		out = append(out, wrong{what + ", and one is seen", append([]sibling.Sibling{one(at(1, 2), "", at(2, 3)), one(at(1, 4), "", at(1, 2))}, l...), api.ErrArg})
	}
	for _, n := range []int{65, 66, 128, 256, 320, 1000} {
		out = append(out, wrong{"many", many(1, 1, n), api.ErrBig})
		out = append(out, wrong{"many that are none", make([]sibling.Sibling, n), api.ErrBig})
	}
	return append(out, falseSets()...)
}

// falseSets: of which one has seen another one, and nothing else is wrong.
func falseSets() []wrong {
	var out []wrong
	for i := range 4 {
		for k := range 4 {
			if i == k {
				continue
			}
			l := []sibling.Sibling{one(at(2, 3), "a"), one(at(2, 5), "b"), one(at(7, 1), "c"), one(at(9, most), "")}
			out = append(out, wrong{"one is seen", changed(l, i, func(s *sibling.Sibling) { s.Past = pastOf(l[k].Dot) }), api.ErrFalse})
			out = append(out, wrong{"two are seen", changed(changed(l, i, func(s *sibling.Sibling) { s.Past = pastOf(l[k].Dot) }), k, func(s *sibling.Sibling) { s.Past = pastOf(l[i].Dot) }), api.ErrFalse})
		}
	}
	return append(out,
		wrong{"by Upto", []sibling.Sibling{one(at(1, 4), ""), {Dot: at(2, 1), Past: upto(1, 4)}}, api.ErrFalse},
		wrong{"by a further Upto", []sibling.Sibling{one(at(1, 4), ""), {Dot: at(2, 1), Past: upto(1, most)}}, api.ErrFalse},
		wrong{"an own elder one", []sibling.Sibling{one(at(1, 4), ""), {Dot: at(1, 5), Past: upto(1, 4)}}, api.ErrFalse},
		wrong{"of 64", changed(many(1, 16, 4), 63, func(s *sibling.Sibling) { s.Past = upto(1, 1) }), api.ErrFalse})
}

// edges: sets whose counts and fields are the least, or the most.
func edges() [][]sibling.Sibling {
	full := sibling.Sibling{Dot: at(16, most), Past: dot.Context{More: every(15, most-62, 32)}, Body: bytes.Repeat([]byte{0xff}, mostBody)}
	for i := range 14 {
		full.Past.Upto[i] = most
	}
	far := sibling.Sibling{Dot: at(1, 1), Past: upto(1, 0, at(1, 2), at(1, most)), Body: nil}
	return [][]sibling.Sibling{
		nil, {}, {far}, {full}, {one(at(1, 1), "")}, {one(at(1, most-1), "a"), one(at(1, most), "b")},
		{one(at(1, 4), "x", at(1, 3)), one(at(1, 5), "y", at(1, 3)), one(at(2, 1), "z", at(1, 1), at(1, 2), at(1, 3))},
		{{Dot: at(3, 4), Past: upto(3, 3), Body: []byte{}}, {Dot: at(4, 1), Past: dot.Context{More: []api.Dot{}}, Body: []byte{0}}},
		many(1, 16, 4), many(4, 1, 64), many(1, 9, 7), {one(at(15, 1), ""), full},
	}
}

// drawn: sets, of few siblings and of many, of which some of one set have seen some of another, and always the same ones.
func drawn(seed uint64, count int) [][]sibling.Sibling {
	rng := rand.New(rand.NewPCG(seed, 15))
	var out [][]sibling.Sibling
	for len(out) < count {
		var l []sibling.Sibling
		clients, numbers := 1+rng.IntN(5), 1+rng.IntN(6)
		for client := 1; client <= clients; client++ {
			for number := 1; number <= numbers; number++ {
				if rng.IntN(3) == 0 {
					l = append(l, one(at(client, number), string(rune('a'+rng.IntN(26)))))
				}
			}
		}
		for i := range l {
			for range rng.IntN(6) {
				d := at(1+rng.IntN(clients), 1+rng.IntN(numbers))
				if !slices.ContainsFunc(l, func(s sibling.Sibling) bool { return s.Dot == d }) {
					l[i].Past, _ = dot.Add(l[i].Past, d)
				}
			}
		}
		out = append(out, l)
	}
	return out
}

// sets: of all these kinds.
func sets(seed uint64, count int) [][]sibling.Sibling {
	return append(edges(), drawn(seed, count)...)
}

// sees: has one of all seen a dot?
func sees(all []sibling.Sibling, d api.Dot) bool {
	for _, s := range all {
		if d.Number <= s.Past.Upto[d.Client-1] || slices.Contains(s.Past.More, d) {
			return true
		}
	}
	return false
}

// merged: those of both that nobody has seen, as the chapter tells it.
func merged(a, b []sibling.Sibling) []sibling.Sibling {
	by := map[api.Dot]sibling.Sibling{}
	for _, s := range append(slices.Clone(b), a...) { // those of a last: they stay
		by[s.Dot] = s
	}
	var out []sibling.Sibling
	for d, s := range by {
		if !sees(a, d) && !sees(b, d) {
			out = append(out, s)
		}
	}
	slices.SortFunc(out, func(x, y sibling.Sibling) int {
		if x.Dot.Client != y.Dot.Client {
			return x.Dot.Client - y.Dot.Client
		}
		return x.Dot.Number - y.Dot.Number
	})
	return out
}

// P15.1: the chapter's example.
func TestExample(t *testing.T) {
	first, second := one(at(1, 1), "first"), one(at(2, 1), "second")
	l, e := sibling.Put(nil, second)
	told(t, "one", l, e, []sibling.Sibling{second}, api.OK)
	l, e = sibling.Put(l, first)
	told(t, "two", l, e, []sibling.Sibling{first, second}, api.OK)
	third := one(at(3, 1), "third", first.Dot, second.Dot)
	l, e = sibling.Put(l, third)
	told(t, "three", l, e, []sibling.Sibling{third}, api.OK)
}

// P15.1: Check tells what is a set, and of what isn't one which error is first.
func TestCheck(t *testing.T) {
	for i, l := range sets(1, 300) {
		if e := sibling.Check(l); e != api.OK {
			t.Errorf("set %d: error %d", i, e)
		}
	}
	for _, w := range noSets() {
		if e := sibling.Check(w.l); e != w.e {
			t.Errorf("%s: error %d, want %d", w.what, e, w.e)
		}
	}
}

// P15.1: Merge tells those of both that nobody has seen; of one dot that of a.
func TestMerge(t *testing.T) {
	all := sets(2, 120)
	for i, a := range all {
		for k, b := range all {
			want := merged(a, b)
			got, e := sibling.Merge(a, b)
			if len(want) > 64 {
				told(t, "too many", got, e, nil, api.ErrBig)
			} else if told(t, "Merge", got, e, want, api.OK); sibling.Check(got) != api.OK {
				t.Errorf("%d, %d: no set", i, k)
			}
		}
	}
}

// P15.1: two siblings of one dot: that of a stays, but what that of b has seen is seen, too.
func TestMergeOfOneDot(t *testing.T) {
	a := []sibling.Sibling{one(at(1, 1), "of a"), one(at(2, 1), "seen by one of b")}
	b := []sibling.Sibling{one(at(1, 1), "of b", at(2, 1)), one(at(3, 1), "of b alone")}
	got, e := sibling.Merge(a, b)
	told(t, "a, b", got, e, []sibling.Sibling{a[0], b[1]}, api.OK)
	got, e = sibling.Merge(b, a)
	told(t, "b, a", got, e, []sibling.Sibling{b[0], b[1]}, api.OK)
	got, e = sibling.Put(a[:1], b[0])
	told(t, "Put", got, e, a[:1], api.OK)
	for n := range 64 {
		l := many(3, 1, 64)
		other := changed(l, n, func(s *sibling.Sibling) { s.Body = []byte("other") })
		got, e = sibling.Merge(other, l)
		told(t, "one of 64", got, e, other, api.OK)
		got, e = sibling.Merge(l, other)
		told(t, "one of 64", got, e, l, api.OK)
	}
}

// P15.1: writes that have each seen the other one are both gone.
func TestMergeOfEachOther(t *testing.T) {
	a, b := one(at(1, 1), "a", at(2, 1)), one(at(2, 1), "b", at(1, 1))
	got, e := sibling.Put([]sibling.Sibling{a, one(at(3, 1), "c")}, b)
	told(t, "each other", got, e, []sibling.Sibling{one(at(3, 1), "c")}, api.OK)
	got, e = sibling.Put([]sibling.Sibling{a}, b)
	told(t, "each other alone", got, e, nil, api.OK)
}

// P15.1: more than 64 that nobody has seen are too many; of those that were handed in there may be more.
func TestMergeErrBig(t *testing.T) {
	full := many(1, 16, 4)
	got, e := sibling.Put(full, one(at(1, 5), ""))
	told(t, "65", got, e, nil, api.ErrBig)
	got, e = sibling.Merge([]sibling.Sibling{one(at(1, 5), "")}, full)
	told(t, "65", got, e, nil, api.ErrBig)
	got, e = sibling.Merge(full, many(1, 1, 5))
	told(t, "65", got, e, nil, api.ErrBig)
	got, e = sibling.Merge(full[:63], many(1, 1, 5))
	told(t, "64", got, e, merged(full[:63], many(1, 1, 5)), api.OK)
	got, e = sibling.Merge(full, full)
	told(t, "64 twice", got, e, full, api.OK)
	got, e = sibling.Merge(many(1, 1, 64), many(2, 1, 64))
	told(t, "128", got, e, nil, api.ErrBig)
	next := one(at(1, 5), "", at(1, 1))
	got, e = sibling.Put(full, next)
	told(t, "one is seen", got, e, merged(full, []sibling.Sibling{next}), api.OK)
	whole := one(at(1, 5), "")
	for client := 1; client <= 16; client++ {
		whole.Past.Upto[client-1] = 4
	}
	got, e = sibling.Merge(full, []sibling.Sibling{whole})
	told(t, "all are seen", got, e, []sibling.Sibling{whole}, api.OK)
}

// P15.1: the errors of what isn't a set; of two those of a.
func TestErrors(t *testing.T) {
	good := many(12, 2, 2)
	for _, w := range noSets() {
		got, e := sibling.Merge(w.l, good)
		told(t, w.what+", a", got, e, nil, w.e)
		got, e = sibling.Merge(good, w.l)
		told(t, w.what+", b", got, e, nil, w.e)
		got, e = sibling.Put(w.l, good[0])
		told(t, w.what+", Put", got, e, nil, w.e)
		if c, e := sibling.Seen(w.l); !dot.Same(c, dot.Context{}) || e != w.e {
			t.Errorf("%s: Seen: %v, error %d, want %d", w.what, c, e, w.e)
		}
		if b, e := sibling.Write(w.l); len(b) != 0 || e != w.e {
			t.Errorf("%s: Write: %x, error %d, want %d", w.what, b, e, w.e)
		}
		if d, e := sibling.Digest(w.l); d != [32]byte{} || e != w.e {
			t.Errorf("%s: Digest: %x, error %d, want %d", w.what, d, e, w.e)
		}
	}
	three := []wrong{{"big", many(1, 1, 65), api.ErrBig}, {"none", make([]sibling.Sibling, 1), api.ErrArg}, falseSets()[0]}
	for _, a := range three {
		for _, b := range three {
			got, e := sibling.Merge(a.l, b.l)
			told(t, a.what+", "+b.what, got, e, nil, a.e)
		}
	}
	for what, spoil := range spoilers() {
		got, e := sibling.Put(good, changed(good, 1, spoil)[1])
		told(t, what+", Put", got, e, nil, api.ErrArg)
		got, e = sibling.Put(falseSets()[0].l, changed(good, 1, spoil)[1])
		told(t, what+", Put to what is none", got, e, nil, api.ErrFalse)
	}
}

// P15.1: Put is Merge with it alone.
func TestPut(t *testing.T) {
	all := sets(3, 60)
	for _, l := range all {
		for _, other := range all[4:20] {
			for _, s := range other[:min(4, len(other))] {
				want := merged(l, []sibling.Sibling{s})
				if got, e := sibling.Put(l, s); len(want) > 64 {
					told(t, "too many", got, e, nil, api.ErrBig)
				} else {
					told(t, "Put", got, e, want, api.OK)
				}
			}
		}
	}
}

// P15.1: Seen tells all dots, and all that they have seen.
func TestSeen(t *testing.T) {
	for i, l := range sets(4, 300) {
		got, e := sibling.Seen(l)
		if e == api.ErrContext && i < len(edges()) {
			continue // see below
		}
		if e != api.OK || dot.Check(got) != api.OK {
			t.Errorf("set %d: error %d", i, e)
		}
		for client := 1; client <= 16; client++ {
			for number := 1; number <= 80; number++ {
				d := at(client, number)
				want := sees(l, d) || slices.ContainsFunc(l, func(s sibling.Sibling) bool { return s.Dot == d })
				if dot.Has(got, d) != want {
					t.Errorf("set %d, %v: want %t", i, d, want)
				}
			}
		}
	}
	for what, w := range map[string]struct {
		l []sibling.Sibling
		c dot.Context
	}{
		"none":              {nil, dot.Context{}},
		"its dot":           {[]sibling.Sibling{one(at(3, 7), "")}, upto(3, 0, at(3, 7))},
		"a gap that closes": {[]sibling.Sibling{{Dot: at(3, 8), Past: upto(3, 7, at(3, 9), at(3, 11))}}, upto(3, 9, at(3, 11))},
		"64 of one client":  {many(5, 1, 64), upto(5, 64)},
		"the last one":      {[]sibling.Sibling{{Dot: at(3, most), Past: upto(3, most-1)}}, upto(3, most)},
	} {
		if got, e := sibling.Seen(w.l); !dot.Same(got, w.c) || e != api.OK {
			t.Errorf("%s: %v, error %d", what, got, e)
		}
	}
}

// P15.1: what siblings have seen is too large only when all is in it: another one may close the gaps.
func TestSeenErrContext(t *testing.T) {
	gaps := sibling.Sibling{Dot: at(2, 2), Past: dot.Context{More: every(1, 2, 32)}}
	if got, e := sibling.Seen([]sibling.Sibling{gaps}); !dot.Same(got, dot.Context{}) || e != api.ErrContext {
		t.Errorf("33: %v, error %d", got, e)
	}
	if got, e := sibling.Seen([]sibling.Sibling{{Dot: at(2, 2), Past: dot.Context{More: every(1, 2, 31)}}}); !dot.Same(got, dot.Context{More: append(every(1, 2, 31), at(2, 2))}) || e != api.OK {
		t.Errorf("32: %v, error %d", got, e)
	}
	closes := sibling.Sibling{Dot: at(3, 1), Past: upto(1, 1, every(1, 3, 31)...)}
	for _, other := range []sibling.Sibling{closes, {Dot: at(3, 1), Past: upto(1, 64)}} {
		want := upto(1, 64, at(2, 2))
		want.Upto[2] = 1
		if got, e := sibling.Seen([]sibling.Sibling{gaps, other}); !dot.Same(got, want) || e != api.OK {
			t.Errorf("gaps that close: %v, error %d", got, e)
		}
	}
	last := []sibling.Sibling{{Dot: at(2, 2), Past: dot.Context{More: every(5, 2, 32)}}, {Dot: at(5, 1)}}
	want := upto(5, 2, append([]api.Dot{at(2, 2)}, every(5, 4, 31)...)...)
	if got, e := sibling.Seen(last); !dot.Same(got, want) || e != api.OK {
		t.Errorf("a gap that the last dot closes: %v, error %d", got, e)
	}
	var apart []sibling.Sibling
	for i := range 33 {
		apart = append(apart, one(at(4, 2+2*i), ""))
	}
	if got, e := sibling.Seen(apart[:32]); !dot.Same(got, dot.Context{More: every(4, 2, 32)}) || e != api.OK {
		t.Errorf("32 apart: %v, error %d", got, e)
	}
	if got, e := sibling.Seen(apart); !dot.Same(got, dot.Context{}) || e != api.ErrContext {
		t.Errorf("33 apart: %v, error %d", got, e)
	}
}

// P15.1: Same asks for each field, of sets and of others; nil and empty lists are one.
func TestSame(t *testing.T) {
	all := sets(5, 20)
	for _, w := range falseSets() {
		all = append(all, w.l)
	}
	for i, a := range all {
		for k, b := range all {
			if sibling.Same(a, b) != equal(a, b) {
				t.Errorf("%d, %d: want %t", i, k, equal(a, b))
			}
		}
		if !sibling.Same(a, copied(a)) {
			t.Errorf("%d isn't the same as itself", i)
		}
		for k := range a {
			if sibling.Same(a, a[:k]) || sibling.Same(a[:k], a) {
				t.Errorf("%d is the same as its first %d", i, k)
			}
			for what, change := range map[string]func(s *sibling.Sibling){
				"Client": func(s *sibling.Sibling) { s.Dot.Client++ },
				"Number": func(s *sibling.Sibling) { s.Dot.Number++ },
				"Upto":   func(s *sibling.Sibling) { s.Past.Upto[k%16]++ },
				"More":   func(s *sibling.Sibling) { s.Past.More = append(s.Past.More, at(16, most)) },
				"longer": func(s *sibling.Sibling) { s.Body = append(s.Body, 0) },
				"Body":   func(s *sibling.Sibling) { s.Body = append([]byte{9}, s.Body[min(1, len(s.Body)):]...) },
			} {
				if other := changed(a, k, change); sibling.Same(a, other) || sibling.Same(other, a) {
					t.Errorf("%d, %d: the same with another %s", i, k, what)
				}
			}
		}
	}
	bare, empty := []sibling.Sibling{{Dot: at(1, 1)}}, []sibling.Sibling{{Dot: at(1, 1), Past: dot.Context{More: []api.Dot{}}, Body: []byte{}}}
	if !sibling.Same(nil, []sibling.Sibling{}) || !sibling.Same(bare, empty) {
		t.Errorf("nil and empty lists aren't one")
	}
}

// written: a list's bytes, as the chapter tells them, whether it is a set or not.
func written(l []sibling.Sibling) []byte {
	out := []byte{byte(len(l))}
	num := func(b []byte, n int) []byte { return binary.BigEndian.AppendUint64(b, uint64(n)) }
	counted := func(b []byte) { out = append(binary.BigEndian.AppendUint32(out, uint32(len(b))), b...) }
	for _, s := range l {
		out = num(num(out, s.Dot.Client), s.Dot.Number)
		var past []byte
		for _, n := range s.Past.Upto {
			past = num(past, n)
		}
		past = append(past, byte(len(s.Past.More)))
		for _, d := range s.Past.More {
			past = num(num(past, d.Client), d.Number)
		}
		counted(past)
		counted(s.Body)
	}
	return out
}

// unread: these are no set's bytes.
func unread(t *testing.T, what string, b []byte) {
	t.Helper()
	if l, e := sibling.Read(b); len(l) != 0 || e != api.ErrDecode {
		t.Errorf("%s: %d siblings, error %d", what, len(l), e)
	}
}

// P15.1, P15.3: a set's bytes and their digest, and the set back from them.
func TestWritten(t *testing.T) {
	for i, l := range sets(6, 300) {
		b, e := sibling.Write(l)
		if !bytes.Equal(b, written(l)) || e != api.OK {
			t.Errorf("set %d: %d bytes, error %d", i, len(b), e)
		}
		got, e := sibling.Read(b)
		told(t, "Read", got, e, l, api.OK)
		if d, e := sibling.Digest(l); d != sha256.Sum256(written(l)) || e != api.OK {
			t.Errorf("set %d: digest %x, error %d", i, d, e)
		}
	}
	if b, _ := sibling.Write(nil); !bytes.Equal(b, []byte{0}) {
		t.Errorf("of none: %x", b)
	}
}

// P15.1: what isn't a set isn't read, though its bytes are in form; nor is less or more than a set's bytes.
func TestReadErrors(t *testing.T) {
	unread(t, "none", nil)
	unread(t, "noughts", make([]byte, 1000))
	unread(t, "ones", bytes.Repeat([]byte{0xff}, 100_000))
	for _, w := range noSets() {
		unread(t, w.what, written(w.l))
	}
	for _, l := range sets(7, 20) {
		b := written(l)
		for n := 0; n < len(b); n += 1 + n/2000 {
			unread(t, "cut", b[:n])
		}
		for n := 1; n < 10; n++ {
			unread(t, "longer", append(slices.Clone(b), make([]byte, n)...))
		}
		for _, count := range []int{len(l) - 1, len(l) + 1, 65, 255} {
			other := slices.Clone(b)
			other[0] = byte(count)
			unread(t, "another count", other)
		}
	}
}

// P15.3: no other bytes are a set's: with any bit changed they are another one's, or none's.
func TestNoOtherBytes(t *testing.T) {
	for i, l := range append(drawn(8, 25), edges()[2], edges()[6], edges()[7]) {
		b := written(l)
		for bit := range 8 * len(b) {
			other := slices.Clone(b)
			other[bit/8] ^= 1 << (bit % 8)
			got, e := sibling.Read(other)
			if e == api.OK && (equal(got, l) || !bytes.Equal(written(got), other) || sibling.Check(got) != api.OK) || e != api.OK && (e != api.ErrDecode || len(got) != 0) {
				t.Errorf("set %d, bit %d changed: %d siblings, error %d", i, bit, len(got), e)
			}
		}
	}
}

// history: writes that come about one after the other, by some clients, each of which has seen some of those ahead,
// with all that these had seen; and those that no one has seen.
func history(rng *rand.Rand) ([]sibling.Sibling, []sibling.Sibling) {
	var all []sibling.Sibling
	var numbers [16]int
	clients, share := 1+rng.IntN(16), 1+rng.IntN(12)
	for range 1 + rng.IntN(20) {
		client := rng.IntN(clients)
		numbers[client]++
		s := sibling.Sibling{Dot: at(client+1, numbers[client]), Body: []byte{byte(rng.IntN(256))}}
		for _, other := range all {
			if rng.IntN(share) == 0 {
				s.Past, _ = dot.Join(s.Past, other.Past)
				s.Past, _ = dot.Add(s.Past, other.Dot)
			}
		}
		all = append(all, s)
	}
	return all, merged(all, nil)
}

// grouped: writes, some of them twice, merged in some order, in some grouping.
func grouped(t *testing.T, rng *rand.Rand, writes []sibling.Sibling) []sibling.Sibling {
	t.Helper()
	var heap [][]sibling.Sibling
	for _, s := range writes {
		for range 1 + rng.IntN(2) {
			heap = append(heap, []sibling.Sibling{s})
		}
	}
	for len(heap) > 1 {
		rng.Shuffle(len(heap), func(i, k int) { heap[i], heap[k] = heap[k], heap[i] })
		both, e := sibling.Merge(heap[0], heap[1])
		if e != api.OK {
			t.Fatalf("error %d", e)
		}
		again, e := sibling.Merge(both, heap[rng.IntN(2)])
		told(t, "twice", again, e, both, api.OK)
		turned, e := sibling.Merge(heap[1], heap[0])
		told(t, "in another order", turned, e, both, api.OK)
		heap = append(heap[2:], both)
	}
	return heap[0]
}

// P15.2: writes that came about one after the other: whatever the order, the grouping, and how often: those stay that no one has seen.
func TestHistories(t *testing.T) {
	rng := rand.New(rand.NewPCG(9, 15))
	for range 200 {
		writes, want := history(rng)
		for range 5 {
			told(t, "all", grouped(t, rng, writes), api.OK, want, api.OK)
		}
	}
}

// P15.2: the same of three sets of a history's writes, in two groupings.
func TestGroupings(t *testing.T) {
	rng := rand.New(rand.NewPCG(10, 15))
	must := func(a, b []sibling.Sibling) []sibling.Sibling {
		l, e := sibling.Merge(a, b)
		if e != api.OK {
			t.Fatalf("error %d", e)
		}
		return l
	}
	for range 300 {
		writes, _ := history(rng)
		var three [3][]sibling.Sibling
		for i := range three {
			for _, s := range writes {
				if rng.IntN(2) == 0 {
					three[i] = must(three[i], []sibling.Sibling{s})
				}
			}
		}
		a, b, c := three[0], three[1], three[2]
		told(t, "groupings", must(must(a, b), c), api.OK, must(a, must(b, c)), api.OK)
		told(t, "with itself", must(a, a), api.OK, a, api.OK)
		told(t, "with none", must(nil, a), api.OK, a, api.OK)
	}
}

// roomy: a list with spare room behind it, behind each Body and each More, and a look whether any of it was changed.
func roomy(l []sibling.Sibling) ([]sibling.Sibling, func() bool) {
	whole := copied(append(slices.Clone(l), many(9, 1, 3)...))
	for i, s := range whole {
		whole[i].Body = append(slices.Clone(s.Body), "spare room"...)[:len(s.Body)]
		whole[i].Past.More = append(slices.Clone(s.Past.More), every(8, 8, 4)...)[:len(s.Past.More)]
	}
	was := roomOf(whole)
	return whole[:len(l)], func() bool { return !equal(roomOf(whole), was) }
}

// roomOf: a copy of a list, with all the room that is behind its parts.
func roomOf(l []sibling.Sibling) []sibling.Sibling {
	out := slices.Clone(l)
	for i, s := range out {
		out[i].Body = slices.Clone(s.Body[:cap(s.Body)])
		out[i].Past.More = slices.Clone(s.Past.More[:cap(s.Past.More)])
	}
	return out
}

// spoil writes over a list, over all of its parts, and behind them.
func spoil(l []sibling.Sibling) {
	for i, s := range l {
		for k := range s.Body {
			s.Body[k] ^= 0x55
		}
		for k := range s.Past.More {
			s.Past.More[k].Number += 1000
		}
		_ = append(s.Body, "behind"...)
		_ = append(s.Past.More, every(9, 9, 3)...)
		l[i].Dot, l[i].Past, l[i].Body = at(5, 5), dot.Context{}, nil
	}
	_ = append(l, many(1, 1, 3)...)
}

// P15.4: what is handed in isn't changed, its spare room neither; what is answered is new memory.
func TestNewMemory(t *testing.T) {
	all := sets(11, 40)
	for i, l := range all {
		for _, o := range [][]sibling.Sibling{nil, all[(i+5)%len(all)], all[(i*7+20)%len(all)], l} {
			a, changedA := roomy(l)
			b, changedB := roomy(o)
			first, e := sibling.Merge(a, b)
			second, _ := sibling.Merge(a, b)
			spoil(first)
			if changedA() || changedB() {
				t.Errorf("set %d: Merge shares memory, or changes something", i)
			}
			if e == api.OK {
				told(t, "spoilt", second, e, merged(l, o), api.OK)
			}
			spoil(a)
			spoil(b)
			if e == api.OK {
				told(t, "spoilt arguments", second, e, merged(l, o), api.OK)
			}
		}
	}
}

// P15.4: the same of the other calls.
func TestOtherNewMemory(t *testing.T) {
	for i, l := range sets(12, 40) {
		a, changedA := roomy(l)
		put, _ := sibling.Put(a, one(at(14, 1), "new", at(14, 3)))
		spoil(put)
		c, _ := sibling.Seen(a)
		for k := range c.More {
			c.More[k].Number++
		}
		_ = append(c.More, every(9, 9, 3)...)
		sibling.Check(a)
		sibling.Same(a, a)
		sibling.Digest(a)
		b, _ := sibling.Write(a)
		whole := append(slices.Clone(b), make([]byte, 99)...)
		first, _ := sibling.Read(whole[:len(b)])
		second, e := sibling.Read(whole[:len(b)])
		spoil(first)
		for k := range b {
			b[k] ^= 0x55
		}
		if changedA() || !bytes.Equal(whole, append(written(l), make([]byte, 99)...)) {
			t.Errorf("set %d: something shares memory, or is changed", i)
		}
		for k := range whole {
			whole[k] ^= 0x55
		}
		told(t, "read, and spoilt", second, e, l, api.OK)
	}
}

// P15.4: no two lists of one answer share memory.
func TestApart(t *testing.T) {
	body, more := []byte("one body"), every(6, 4, 3)
	l := []sibling.Sibling{{Dot: at(1, 1), Past: dot.Context{More: more}, Body: body}, {Dot: at(2, 1), Past: dot.Context{More: more}, Body: body}}
	apart := func(what string, got []sibling.Sibling, e api.Errno) {
		t.Helper()
		want := copied(got)
		spoil(got[:1])
		told(t, what, got[1:], e, want[1:], api.OK)
		if e != api.OK || len(got) < 2 {
			t.Errorf("%s: %d siblings, error %d", what, len(got), e)
		}
	}
	got, e := sibling.Merge(l, nil)
	apart("Merge", got, e)
	got, e = sibling.Put(l[:1], l[1])
	apart("Put", got, e)
	got, e = sibling.Read(written(l))
	apart("Read", got, e)
	if string(body) != "one body" || more[0] != at(6, 4) {
		t.Errorf("what was handed in was changed")
	}
}

// P1, P15.4: all calls end, without a panic, at arguments of all kinds; what is refused isn't changed either.
func TestAllArguments(t *testing.T) {
	all := edges()
	for _, w := range noSets() {
		all = append(all, w.l)
	}
	for i, l := range all {
		a, changedA := roomy(l)
		other := all[(i*7+3)%len(all)]
		sibling.Check(a)
		sibling.Merge(a, other)
		sibling.Merge(other, a)
		sibling.Seen(a)
		sibling.Same(a, other)
		sibling.Digest(a)
		sibling.Write(a)
		sibling.Read(written(a))
		for _, s := range a[:min(3, len(a))] {
			sibling.Put(other, s)
			sibling.Put(a, s)
		}
		sibling.Put(a, sibling.Sibling{})
		if changedA() {
			t.Errorf("list %d was changed", i)
		}
	}
}
