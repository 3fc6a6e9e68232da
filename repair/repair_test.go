package repair_test

import (
	"math/rand/v2"
	"slices"
	"testing"

	"casket/api"
	"casket/dot"
	"casket/repair"
	"casket/sibling"
)

func at(client, number int) api.Dot { return api.Dot{Client: client, Number: number} }

// one: a write of some body, that has seen these dots.
func one(d api.Dot, body string, seen ...api.Dot) sibling.Sibling {
	var c dot.Context
	for _, s := range seen {
		c, _ = dot.Add(c, s)
	}
	return sibling.Sibling{Dot: d, Past: c, Body: []byte(body)}
}

func setOf(l ...sibling.Sibling) []sibling.Sibling { return l }

// many: siblings of one client that have seen nothing.
func many(client, n int) []sibling.Sibling {
	var out []sibling.Sibling
	for i := range n {
		out = append(out, one(at(client, i+1), "m"))
	}
	return out
}

// seer: a write that has seen all numbers of the clients from 1 to 15, up to 64.
func seer() sibling.Sibling {
	s := one(at(16, 1), "s")
	for i := range 15 {
		s.Past.Upto[i] = 64
	}
	return s
}

// from: answers with these sets, told by 5, 6, and so on.
func from(sets ...[]sibling.Sibling) []repair.Answer {
	var out []repair.Answer
	for i, set := range sets {
		out = append(out, repair.Answer{From: 5 + i, Set: set})
	}
	return out
}

// copied: a list that shares nothing.
func copied(l []sibling.Sibling) []sibling.Sibling {
	out := slices.Clone(l)
	for i, s := range out {
		out[i].Past.More = slices.Clone(s.Past.More)
		out[i].Body = slices.Clone(s.Body)
	}
	return out
}

// equal: are both the same? As the tests ask it.
func equal(a, b []sibling.Sibling) bool {
	return slices.EqualFunc(a, b, func(s, o sibling.Sibling) bool {
		return s.Dot == o.Dot && s.Past.Upto == o.Past.Upto && slices.Equal(s.Past.More, o.Past.More) && string(s.Body) == string(o.Body)
	})
}

// whole: Whole and Lacking tell just this.
func whole(t *testing.T, what string, l []repair.Answer, want []sibling.Sibling, lacking ...int) {
	t.Helper()
	if got, e := repair.Whole(l); !equal(got, want) || e != api.OK {
		t.Errorf("%s: Whole: %d siblings, error %d, want %d, or other ones", what, len(got), e, len(want))
	}
	if got, e := repair.Lacking(l); !slices.Equal(got, lacking) || e != api.OK {
		t.Errorf("%s: Lacking: %v, error %d, want %v", what, got, e, lacking)
	}
}

// refused: both tell this error, and nothing beside it.
func refused(t *testing.T, what string, l []repair.Answer, want api.Errno) {
	t.Helper()
	if got, e := repair.Whole(l); len(got) != 0 || e != want {
		t.Errorf("%s: Whole: %d siblings, error %d, want none, error %d", what, len(got), e, want)
	}
	if got, e := repair.Lacking(l); len(got) != 0 || e != want {
		t.Errorf("%s: Lacking: %v, error %d, want none, error %d", what, got, e, want)
	}
}

// P25.1: the chapter's example.
func TestExample(t *testing.T) {
	whole(t, "nil", nil, nil)
	whole(t, "empty", []repair.Answer{}, nil)
}

// P25.1: answers of no siblings are whole, if all are.
func TestNothing(t *testing.T) {
	whole(t, "one", from(nil), nil)
	whole(t, "three", from(nil, setOf(), nil), nil)
	whole(t, "one has something", from(nil, setOf(one(at(1, 1), "a")), setOf()), setOf(one(at(1, 1), "a")), 5, 7)
}

// P25.1: who lacks a sibling, who has one that is seen, who has one beside the whole's, and who has just the whole.
func TestLacking(t *testing.T) {
	a, b := one(at(1, 1), "a"), one(at(2, 1), "b")
	c := one(at(3, 1), "c", at(1, 1))
	all := setOf(b, c)
	whole(t, "of one", from(setOf(a, b)), setOf(a, b))
	whole(t, "lacks one", from(setOf(a), setOf(a, b)), setOf(a, b), 5)
	whole(t, "lack each other's", from(setOf(a), setOf(b)), setOf(a, b), 5, 6)
	whole(t, "has a seen one", from(setOf(a), setOf(c)), setOf(c), 5)
	whole(t, "all kinds", from(all, setOf(a), setOf(b), setOf(c), setOf(a, b), all, nil), all, 6, 7, 8, 9, 11)
	whole(t, "nobody has it", from(setOf(a, b), setOf(c)), all, 5, 6)
}

// P25.1: the From of each answer, as it is, in their order, also where one told twice.
func TestFrom(t *testing.T) {
	a, b := one(at(1, 1), "a"), one(at(2, 1), "b")
	l := []repair.Answer{{From: 7, Set: setOf(a)}, {From: -3, Set: setOf(b)}, {From: 7}, {From: 0, Set: setOf(a, b)}, {From: 7, Set: setOf(a, b)}, {From: 1, Set: setOf(b)}}
	whole(t, "any From", l, setOf(a, b), 7, -3, 7, 1)
}

// P25.1: of one dot that of the first answer is kept; who told another one of it lacks that.
func TestOneDot(t *testing.T) {
	x, y := one(at(1, 1), "x"), one(at(1, 1), "y")
	whole(t, "x first", from(setOf(x), setOf(y), setOf(x)), setOf(x), 6)
	whole(t, "y first", from(setOf(y), setOf(x), setOf(x)), setOf(y), 6, 7)
	past := one(at(1, 1), "x", at(2, 7))
	whole(t, "another past", from(setOf(x), setOf(past)), setOf(x), 6)
}

// P25.1: they are merged in their order, one by one: where pasts don't hold all that was seen, that is to be seen.
func TestOrder(t *testing.T) {
	x, y, z := one(at(1, 1), "x"), one(at(2, 1), "y", at(1, 1)), one(at(3, 1), "z", at(2, 1))
	for _, c := range []struct {
		l    []repair.Answer
		want []sibling.Sibling
		lack []int
	}{
		{from(setOf(x), setOf(y), setOf(z)), setOf(z), []int{5, 6}},
		{from(setOf(x), setOf(z), setOf(y)), setOf(z), []int{5, 7}},
		{from(setOf(y), setOf(z), setOf(x)), setOf(x, z), []int{5, 6, 7}},
		{from(setOf(z), setOf(y), setOf(x)), setOf(x, z), []int{5, 6, 7}},
		{from(setOf(y), setOf(x), setOf(z)), setOf(z), []int{5, 6}},
		{from(setOf(z), setOf(x), setOf(y)), setOf(z), []int{6, 7}},
	} {
		whole(t, "an order", c.l, c.want, c.lack...)
	}
}

// P25.1: Merge's errors, wherever in the list that is which isn't a set, also behind others and alone.
func TestErrors(t *testing.T) {
	a, b := one(at(1, 1), "a"), one(at(2, 1), "b")
	long := one(at(1, 1), "")
	long.Body = make([]byte, 16385)
	for _, c := range []struct {
		what string
		set  []sibling.Sibling
		want api.Errno
	}{
		{"no dot", setOf(sibling.Sibling{}), api.ErrArg},
		{"falling", setOf(b, a), api.ErrArg},
		{"twice", setOf(a, a), api.ErrArg},
		{"long", setOf(long), api.ErrArg},
		{"seen", setOf(a, one(at(2, 1), "b", at(1, 1))), api.ErrFalse},
		{"many", append(many(1, 64), b), api.ErrBig},
	} {
		refused(t, c.what, from(c.set), c.want)
		refused(t, c.what, from(c.set, setOf(a)), c.want)
		refused(t, c.what, from(setOf(a), setOf(b), c.set), c.want)
		refused(t, c.what, from(setOf(a), c.set, nil), c.want)
	}
	refused(t, "the first of two", from(nil, setOf(b, a), append(many(1, 64), b)), api.ErrArg)
	refused(t, "the first of two", from(nil, append(many(1, 64), b), setOf(b, a)), api.ErrBig)
}

// P25.1: more than 64 siblings on the way are ErrBig, 64 aren't, whatever comes behind.
func TestErrBig(t *testing.T) {
	all := append(many(1, 40), many(2, 24)...)
	whole(t, "64", from(many(1, 40), many(2, 24)), all, 5, 6)
	refused(t, "65", from(many(1, 40), many(2, 25)), api.ErrBig)
	refused(t, "65, and one that has seen all", from(many(1, 40), many(2, 25), setOf(seer())), api.ErrBig)
	whole(t, "it comes between", from(many(1, 40), setOf(seer()), many(2, 25)), setOf(seer()), 5, 7)
	whole(t, "it comes first", from(setOf(seer()), many(1, 40), many(2, 25)), setOf(seer()), 6, 7)
}

// drawnSet: of few siblings, of which some are seen by other ones.
func drawnSet(rng *rand.Rand) []sibling.Sibling {
	var l []sibling.Sibling
	for client := 1; client <= 3; client++ {
		if rng.IntN(3) == 0 {
			continue
		}
		s := one(at(client, 1+rng.IntN(3)), string(rune('a'+rng.IntN(2))))
		for range rng.IntN(4) {
			if d := at(1+rng.IntN(3), 1+rng.IntN(3)); d != s.Dot {
				s.Past, _ = dot.Add(s.Past, d)
			}
		}
		if got, e := sibling.Put(l, s); e == api.OK {
			l = got
		}
	}
	return l
}

// P25.1, P25.2: drawn answers: the whole is what is merged one by one; who hasn't just that lacks something; if nobody does, all have it.
func TestDrawn(t *testing.T) {
	agreed := 0
	for seed := range uint64(4000) {
		rng := rand.New(rand.NewPCG(seed, 25))
		var l []repair.Answer
		var want []sibling.Sibling
		for i := range rng.IntN(5) {
			set := drawnSet(rng)
			if i > 0 && rng.IntN(2) == 0 {
				set = copied(l[rng.IntN(i)].Set)
			}
			l = append(l, repair.Answer{From: rng.IntN(8), Set: set})
			want, _ = sibling.Merge(want, set)
		}
		var lacking []int
		for _, a := range l {
			if !equal(a.Set, want) {
				lacking = append(lacking, a.From)
			}
		}
		whole(t, "drawn", l, want, lacking...)
		if lacking == nil && len(l) > 1 {
			agreed++
		}
	}
	if agreed < 100 {
		t.Errorf("only %d drawn lists agree", agreed)
	}
}

// spoil writes over siblings, and over the spare room of their lists.
func spoil(l []sibling.Sibling) {
	l = l[:cap(l)]
	for i, s := range l {
		for k := range s.Past.More[:cap(s.Past.More)] {
			s.Past.More[:cap(s.Past.More)][k] = at(9, 9)
		}
		for k := range s.Body[:cap(s.Body)] {
			s.Body[:cap(s.Body)][k] ^= 0x55
		}
		l[i] = sibling.Sibling{}
	}
}

// P25.3: what is handed in isn't changed, its spare room neither; answers are new memory, that is no argument's.
func TestMemory(t *testing.T) {
	a, b := one(at(1, 1), "a", at(4, 5), at(4, 9)), one(at(2, 1), "b", at(1, 3))
	c := one(at(3, 1), "c", at(1, 1))
	for _, sets := range [][][]sibling.Sibling{{setOf(a)}, {setOf(a, b)}, {setOf(a), setOf(b)}, {setOf(a, b), setOf(c)}, {setOf(a), setOf(a)}, {nil, setOf(a)}} {
		build := func() []repair.Answer {
			var l []repair.Answer
			for i, set := range sets {
				room := append(copied(set), one(at(9, 9), "room"))[:len(set)]
				l = append(l, repair.Answer{From: i, Set: room})
			}
			return append(l, repair.Answer{From: 99, Set: setOf(c)})[:len(sets)]
		}
		l, was := build(), build()
		got, _ := repair.Whole(l)
		want := copied(got)
		lacking, _ := repair.Lacking(l)
		if !slices.EqualFunc(l[:len(l)+1], was[:len(was)+1], func(x, y repair.Answer) bool {
			return x.From == y.From && equal(x.Set[:cap(x.Set)], y.Set[:cap(y.Set)])
		}) {
			t.Error("what was handed in was changed")
		}
		for i := range l {
			spoil(l[i].Set)
		}
		if !equal(got, want) {
			t.Error("an answer shares memory with what was handed in")
		}
		spoil(got)
		for i := range lacking[:cap(lacking)] {
			lacking[:cap(lacking)][i] = 77
		}
		again, _ := repair.Whole(was)
		if !equal(again, want) {
			t.Error("an answer hangs on another one")
		}
	}
}

// P25.3: no two siblings of an answer share memory, also where two answers' do.
func TestApart(t *testing.T) {
	body, more := []byte("body"), []api.Dot{at(9, 5)}
	a, b := one(at(1, 1), ""), one(at(2, 1), "")
	a.Body, b.Body, a.Past.More, b.Past.More = body, body, more, more
	got, e := repair.Whole(from(setOf(a), setOf(b)))
	if e != api.OK || len(got) != 2 {
		t.Fatalf("%d siblings, error %d", len(got), e)
	}
	want := copied(got)
	spoil(got[:1:1])
	if !equal(got[1:], want[1:]) || string(body) != "body" || more[0] != at(9, 5) {
		t.Error("siblings of an answer share memory")
	}
}
