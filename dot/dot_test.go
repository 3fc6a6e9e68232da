package dot_test

import (
	"bytes"
	"encoding/binary"
	"math"
	"math/rand/v2"
	"slices"
	"testing"

	"casket/api"
	"casket/dot"
)

const (
	most  = 1 << 40 // a dot's greatest Number
	wide  = 100     // the greatest one of a set here
	tries = 300
)

// set: dots one by one, that a context tells shortly.
type set map[api.Dot]bool

func setOf(dots ...api.Dot) set {
	out := set{}
	for _, d := range dots {
		out[d] = true
	}
	return out
}

// with: the set and other ones.
func (s set) with(others ...set) set {
	out := set{}
	for _, o := range append(others, s) {
		for d := range o {
			out[d] = true
		}
	}
	return out
}

// context: the one that tells a set, as the chapter has it; false, if it would have too many dots.
func (s set) context() (dot.Context, bool) {
	var c dot.Context
	for client := 1; client <= 16; client++ {
		n := 0
		for s[api.Dot{Client: client, Number: n + 1}] {
			n++
		}
		c.Upto[client-1] = n
		for number := n + 2; number <= wide; number++ {
			if d := (api.Dot{Client: client, Number: number}); s[d] {
				c.More = append(c.More, d)
			}
		}
	}
	return c, len(c.More) <= 32
}

// universe: all dots that a set here may have.
func universe() []api.Dot {
	var out []api.Dot
	for client := 1; client <= 16; client++ {
		for number := 1; number <= wide; number++ {
			out = append(out, api.Dot{Client: client, Number: number})
		}
	}
	return out
}

// drawn: sets that have contexts, of few dots and of many, dense and thin, and always the same ones.
func drawn(seed uint64, count int) []set {
	rng := rand.New(rand.NewPCG(seed, 14))
	var out []set
	for len(out) < count {
		s := set{}
		clients, numbers := 1+rng.IntN(16), 1+rng.IntN(wide)
		for range rng.IntN(60) {
			s[api.Dot{Client: 1 + rng.IntN(clients), Number: 1 + rng.IntN(numbers)}] = true
		}
		for range rng.IntN(3) {
			client := 1 + rng.IntN(16)
			for n := range rng.IntN(30) {
				s[api.Dot{Client: client, Number: n + 1}] = true
			}
		}
		if _, ok := s.context(); ok {
			out = append(out, s)
		}
	}
	return out
}

func context(s set) dot.Context {
	c, _ := s.context()
	return c
}

// every: count dots of one client, of every second number, from first on.
func every(client, first, count int) []api.Dot {
	var out []api.Dot
	for i := range count {
		out = append(out, api.Dot{Client: client, Number: first + 2*i})
	}
	return out
}

// upto: a context of all of one client's up to a number, and of more.
func upto(client, n int, more ...api.Dot) dot.Context {
	var c dot.Context
	c.Upto[client-1] = n
	c.More = more
	return c
}

// equal: have both the same fields? As the tests ask it, not as Same tells it.
func equal(a, b dot.Context) bool {
	if len(a.More) != len(b.More) {
		return false
	}
	for i := range a.More {
		if a.More[i] != b.More[i] {
			return false
		}
	}
	for i := range a.Upto {
		if a.Upto[i] != b.Upto[i] {
			return false
		}
	}
	return true
}

// told: an answer is this context, with this error; with one it is nothing.
func told(t *testing.T, what string, got dot.Context, e api.Errno, want dot.Context, wantErr api.Errno) {
	t.Helper()
	if wantErr != api.OK {
		want = dot.Context{}
	}
	if !equal(got, want) || e != wantErr {
		t.Errorf("%s: %v, error %d, want %v, error %d", what, got, e, want, wantErr)
	}
}

func noDots() []api.Dot {
	out := []api.Dot{{}}
	for _, n := range []int{math.MinInt, -1, 0, 17, 1 << 32, 1<<32 + 1, math.MaxInt} {
		out = append(out, api.Dot{Client: n, Number: 1}, api.Dot{Client: n, Number: most + 1})
	}
	for _, n := range []int{math.MinInt, -1, 0, most + 1, most + 2, math.MaxInt} {
		out = append(out, api.Dot{Client: 1, Number: n}, api.Dot{Client: 16, Number: n})
	}
	return out
}

// wrong: what isn't a context, and what Check tells of it.
type wrong struct {
	c dot.Context
	e api.Errno
}

func noContexts() []wrong {
	var out []wrong
	for client := 1; client <= 16; client++ {
		for _, n := range []int{math.MinInt, -1, most + 1, math.MaxInt} {
			out = append(out, wrong{upto(client, n), api.ErrArg})
			out = append(out, wrong{upto(client, n, every(1, 2, 33)...), api.ErrArg}) // ahead of ErrContext
		}
		for _, n := range []int{1, 7, most - 2} {
			for _, k := range []int{n - 1, n, n + 1} {
				out = append(out, wrong{upto(client, n, api.Dot{Client: client, Number: k}), api.ErrArg})
			}
		}
		out = append(out, wrong{upto(client, 0, api.Dot{Client: client, Number: 1}), api.ErrArg})
		out = append(out, wrong{upto(client, most, api.Dot{Client: client, Number: most}), api.ErrArg})
	}
	for _, d := range noDots() {
		out = append(out, wrong{dot.Context{More: []api.Dot{d}}, api.ErrArg})
		out = append(out, wrong{dot.Context{More: append(every(1, 2, 31), d)}, api.ErrArg})
		out = append(out, wrong{dot.Context{More: append([]api.Dot{d}, every(16, 2, 31)...)}, api.ErrArg})
		out = append(out, wrong{dot.Context{More: append([]api.Dot{d}, every(16, 2, 32)...)}, api.ErrContext}) // ahead of ErrArg
	}
	for _, more := range [][]api.Dot{
		{{Client: 1, Number: 3}, {Client: 1, Number: 3}},
		{{Client: 1, Number: 4}, {Client: 1, Number: 3}},
		{{Client: 2, Number: 3}, {Client: 1, Number: 3}},
		{{Client: 2, Number: 3}, {Client: 1, Number: 4}},
		{{Client: 1, Number: 3}, {Client: 3, Number: 2}, {Client: 2, Number: 9}},
		append(every(1, 2, 31), api.Dot{Client: 1, Number: 62}),
	} {
		out = append(out, wrong{dot.Context{More: more}, api.ErrArg})
	}
	for _, n := range []int{33, 34, 64, 255, 256, 288, 1000} {
		out = append(out, wrong{dot.Context{More: every(5, 2, n)}, api.ErrContext})
		out = append(out, wrong{dot.Context{More: make([]api.Dot, n)}, api.ErrContext})
		out = append(out, wrong{upto(5, most, every(5, 2, n)...), api.ErrContext})
	}
	return out
}

// edges: contexts whose fields are the least, or the most.
func edges() []dot.Context {
	out := []dot.Context{{}, {More: []api.Dot{}}, {More: every(1, 2, 32)}, {More: every(16, most-62, 32)}}
	out = append(out, dot.Context{More: append(every(2, 2, 16), every(3, 2, 16)...)})
	out = append(out, dot.Context{More: []api.Dot{{Client: 1, Number: most}, {Client: 2, Number: 2}, {Client: 2, Number: 3}, {Client: 16, Number: most}}})
	var all, each dot.Context
	for i := range all.Upto {
		all.Upto[i] = most
		each.Upto[i] = i
		each.More = append(each.More, api.Dot{Client: i + 1, Number: i + 2}, api.Dot{Client: i + 1, Number: most})
		out = append(out, upto(i+1, 1), upto(i+1, most), upto(i+1, most-2, api.Dot{Client: i + 1, Number: most}))
	}
	return append(out, all, each)
}

// P14.1: the chapter's example.
func TestExample(t *testing.T) {
	c, e := dot.Add(dot.Context{}, api.Dot{Client: 1, Number: 2})
	told(t, "(1, 2)", c, e, dot.Context{More: []api.Dot{{Client: 1, Number: 2}}}, api.OK)
	c, e = dot.Add(c, api.Dot{Client: 1, Number: 1})
	told(t, "and (1, 1)", c, e, upto(1, 2), api.OK)
}

// P14.1: Check tells what is a context, and of what isn't one which error is first.
func TestCheck(t *testing.T) {
	for _, c := range edges() {
		if e := dot.Check(c); e != api.OK {
			t.Errorf("%v: error %d", c, e)
		}
	}
	for _, s := range drawn(1, tries) {
		if e := dot.Check(context(s)); e != api.OK {
			t.Errorf("%v: error %d", context(s), e)
		}
	}
	for _, w := range noContexts() {
		if e := dot.Check(w.c); e != w.e {
			t.Errorf("%v: error %d, want %d", w.c, e, w.e)
		}
	}
}

// P14.1: Has tells of each dot whether it is in the set.
func TestHas(t *testing.T) {
	for _, s := range drawn(2, 60) {
		c := context(s)
		for _, d := range universe() {
			if dot.Has(c, d) != s[d] {
				t.Errorf("%v, %v: %t", c, d, !s[d])
			}
		}
		for _, d := range noDots() {
			if dot.Has(c, d) {
				t.Errorf("%v has %v", c, d)
			}
		}
	}
	for _, client := range []int{1, 2, 16} {
		far := upto(client, most-2, api.Dot{Client: client, Number: most})
		for n, want := range map[int]bool{1: true, 1 << 32: true, most - 3: true, most - 2: true, most - 1: false, most: true, most + 1: false} {
			if dot.Has(far, api.Dot{Client: client, Number: n}) != want || dot.Has(far, api.Dot{Client: client%16 + 1, Number: n}) {
				t.Errorf("%v, %d: want %t", far, n, want)
			}
		}
	}
	for _, w := range noContexts() {
		for _, d := range append(w.c.More, append(universe(), noDots()...)...) {
			if dot.Has(w.c, d) {
				t.Errorf("%v, that isn't one, has %v", w.c, d)
			}
		}
	}
}

// covers: are all of other's in s?
func covers(s, other set) bool {
	return len(s.with(other)) == len(s)
}

// P14.1: Covers tells whether all of another's dots are in a set.
func TestCovers(t *testing.T) {
	sets := append(drawn(3, 60), set{})
	for _, s := range sets {
		near := []set{s, s.with(setOf(api.Dot{Client: 3, Number: 9})), s.with(setOf(api.Dot{Client: 16, Number: 1}))}
		for d := range s {
			less := s.with()
			delete(less, d)
			near = append(near, less)
		}
		for _, other := range append(near, sets...) {
			c, okC := s.context()
			o, okO := other.context()
			if okC && okO && (dot.Covers(c, o) != covers(s, other) || dot.Covers(o, c) != covers(other, s)) {
				t.Errorf("%v, %v: want %t, %t", c, o, covers(s, other), covers(other, s))
			}
		}
	}
	full, far := dot.Context{More: every(1, 2, 32)}, upto(1, most)
	if !dot.Covers(full, full) || dot.Covers(full, upto(2, 1)) || dot.Covers(full, dot.Context{More: every(2, 2, 32)}) || !dot.Covers(far, full) || dot.Covers(full, far) {
		t.Errorf("at the edges")
	}
	for _, w := range noContexts() {
		if dot.Covers(w.c, w.c) || dot.Covers(w.c, dot.Context{}) || dot.Covers(edges()[1], w.c) || dot.Covers(far, w.c) {
			t.Errorf("%v isn't one", w.c)
		}
	}
}

// P14.1: Same asks for the same fields, whether they are contexts or not; nil and empty lists are one.
func TestSame(t *testing.T) {
	all := edges()[2:] // the first two are the same
	for _, w := range noContexts() {
		all = append(all, w.c)
	}
	for _, a := range all {
		for _, b := range all {
			if dot.Same(a, b) != equal(a, b) {
				t.Errorf("%v, %v: want %t", a, b, equal(a, b))
			}
		}
		twin := dot.Context{Upto: a.Upto, More: slices.Clone(a.More)}
		if !dot.Same(a, twin) {
			t.Errorf("%v isn't the same as itself", a)
		}
		for i := range twin.Upto {
			other := twin
			other.Upto[i]++
			if dot.Same(a, other) {
				t.Errorf("%v, %v: the same", a, other)
			}
		}
		for i := range twin.More {
			for _, change := range []api.Dot{{Client: 1}, {Number: 1}} {
				other := dot.Context{Upto: a.Upto, More: slices.Clone(a.More)}
				other.More[i].Client += change.Client
				other.More[i].Number += change.Number
				if dot.Same(a, other) || dot.Same(other, a) {
					t.Errorf("%v, %v: the same", a, other)
				}
			}
		}
	}
	if !dot.Same(dot.Context{}, dot.Context{More: []api.Dot{}}) || !dot.Same(upto(1, 5, []api.Dot{}...), upto(1, 5)) {
		t.Errorf("nil and empty lists aren't one")
	}
}

// P14.1: Add tells the set with one dot more, also of one that is in it, or closes a gap.
func TestAdd(t *testing.T) {
	full := 0
	for _, s := range drawn(4, 15) {
		c := context(s)
		for _, d := range universe() {
			want, ok := s.with(setOf(d)).context()
			got, e := dot.Add(c, d)
			if ok {
				told(t, "Add", got, e, want, api.OK)
			} else {
				full++
				told(t, "Add to a full one", got, e, dot.Context{}, api.ErrContext)
			}
		}
	}
	if full == 0 {
		t.Errorf("none was full")
	}
	c, e := dot.Add(upto(1, most-1), api.Dot{Client: 1, Number: most})
	told(t, "the last one", c, e, upto(1, most), api.OK)
	c, e = dot.Add(upto(1, most-2, api.Dot{Client: 1, Number: most}), api.Dot{Client: 1, Number: most - 1})
	told(t, "the last gap", c, e, upto(1, most), api.OK)
}

// P14.1: Add to a set that has as many More as may be: what needs none more has room.
func TestAddToFull(t *testing.T) {
	c := dot.Context{More: every(1, 4, 32)}
	c.Upto[0], c.Upto[1] = 2, 7
	for _, d := range []api.Dot{{Client: 1, Number: 5}, {Client: 1, Number: 67}, {Client: 1, Number: most}, {Client: 2, Number: 9}, {Client: 3, Number: 2}} {
		got, e := dot.Add(c, d)
		told(t, "no room", got, e, dot.Context{}, api.ErrContext)
	}
	for _, d := range []api.Dot{{Client: 1, Number: 1}, {Client: 1, Number: 4}, {Client: 1, Number: 66}, {Client: 2, Number: 7}} {
		got, e := dot.Add(c, d)
		told(t, "in it", got, e, c, api.OK)
	}
	for client, want := range map[int]int{2: 8, 3: 1, 16: 1} {
		other := c
		other.Upto[client-1] = want
		got, e := dot.Add(c, api.Dot{Client: client, Number: want})
		told(t, "the next one", got, e, other, api.OK)
	}
	got, e := dot.Add(c, api.Dot{Client: 1, Number: 3})
	want := dot.Context{Upto: c.Upto, More: every(1, 6, 31)}
	want.Upto[0] = 4
	told(t, "a gap", got, e, want, api.OK)
}

// P14.1: Join tells all dots of both, if there is a context of them.
func TestJoin(t *testing.T) {
	full := 0
	sets := append(drawn(5, 60), set{})
	for _, a := range sets {
		for _, b := range sets {
			want, ok := a.with(b).context()
			got, e := dot.Join(context(a), context(b))
			if ok {
				told(t, "Join", got, e, want, api.OK)
			} else {
				full++
				told(t, "Join of too many", got, e, dot.Context{}, api.ErrContext)
			}
		}
	}
	if full == 0 {
		t.Errorf("none was full")
	}
}

// P14.1: Join at the edges: of sets that close each other's gaps, one by one there would be too many on the way.
func TestJoinEdges(t *testing.T) {
	even, odd := dot.Context{More: every(1, 2, 32)}, upto(1, 1, every(1, 3, 31)...)
	got, e := dot.Join(even, odd)
	told(t, "gaps", got, e, upto(1, 64), api.OK)
	got, e = dot.Join(odd, even)
	told(t, "gaps", got, e, upto(1, 64), api.OK)
	first, second := dot.Context{More: every(1, 2, 16)}, dot.Context{More: every(2, 2, 16)}
	got, e = dot.Join(second, first)
	told(t, "32", got, e, dot.Context{More: append(every(1, 2, 16), every(2, 2, 16)...)}, api.OK)
	got, e = dot.Join(first, dot.Context{More: every(2, 2, 17)})
	told(t, "33", got, e, dot.Context{}, api.ErrContext)
	got, e = dot.Join(even, dot.Context{More: every(1, 3, 32)})
	told(t, "one gap is left", got, e, dot.Context{}, api.ErrContext)
	for _, c := range edges() {
		got, e = dot.Join(c, dot.Context{})
		told(t, "with nothing", got, e, c, api.OK)
		got, e = dot.Join(upto(1, most), c)
		want := dot.Context{Upto: c.Upto}
		want.Upto[0] = most
		for _, d := range c.More {
			if d.Client != 1 {
				want.More = append(want.More, d)
			}
		}
		told(t, "with all of one", got, e, want, api.OK)
	}
}

// P14.1: of what isn't a context, or no dot, there is ErrArg, also where there were too many dots.
func TestErrArg(t *testing.T) {
	for _, w := range noContexts() {
		got, e := dot.Add(w.c, api.Dot{Client: 1, Number: 1})
		told(t, "Add to none", got, e, dot.Context{}, api.ErrArg)
		for _, c := range edges() {
			got, e = dot.Join(w.c, c)
			told(t, "Join of none", got, e, dot.Context{}, api.ErrArg)
			got, e = dot.Join(c, w.c)
			told(t, "Join with none", got, e, dot.Context{}, api.ErrArg)
		}
		if n, e := dot.Next(w.c, 1); n != 0 || e != api.ErrArg {
			t.Errorf("Next of %v: %d, error %d", w.c, n, e)
		}
		if b, e := dot.Write(w.c); len(b) != 0 || e != w.e {
			t.Errorf("Write of %v: %x, error %d, want %d", w.c, b, e, w.e)
		}
	}
	for _, c := range edges() {
		for _, d := range noDots() {
			got, e := dot.Add(c, d)
			told(t, "Add of none", got, e, dot.Context{}, api.ErrArg)
		}
		for _, client := range []int{math.MinInt, -1, 0, 17, 1 << 32, math.MaxInt} {
			if n, e := dot.Next(c, client); n != 0 || e != api.ErrArg {
				t.Errorf("Next of %d: %d, error %d", client, n, e)
			}
		}
	}
}

// P14.2: Join is the same in any order, twice, and in any grouping.
func TestUnion(t *testing.T) {
	must := func(a, b dot.Context) dot.Context {
		c, e := dot.Join(a, b)
		if e != api.OK {
			t.Errorf("%v, %v: error %d", a, b, e)
		}
		return c
	}
	found := 0
	sets := drawn(6, 20)
	for _, a := range sets {
		for _, b := range sets {
			x, y := context(a), context(b)
			if _, ok := a.with(b).context(); !ok {
				continue
			}
			xy := must(x, y)
			told(t, "in any order", must(y, x), api.OK, xy, api.OK)
			told(t, "twice", must(xy, y), api.OK, xy, api.OK)
			told(t, "with itself", must(xy, xy), api.OK, xy, api.OK)
			for _, c := range sets {
				_, ok1 := b.with(c).context()
				want, ok2 := a.with(b, c).context()
				if ok1 && ok2 {
					found++
					z := context(c)
					told(t, "in one grouping", must(xy, z), api.OK, want, api.OK)
					told(t, "in another one", must(x, must(y, z)), api.OK, want, api.OK)
				}
			}
		}
	}
	if found < 500 {
		t.Errorf("%d groupings alone", found)
	}
}

// P14.1: Next tells the number behind all of a client's, whatever the others' are.
func TestNext(t *testing.T) {
	for _, s := range drawn(7, tries) {
		for client := 1; client <= 16; client++ {
			want := 1
			for d := range s {
				if d.Client == client {
					want = max(want, d.Number+1)
				}
			}
			if n, e := dot.Next(context(s), client); n != want || e != api.OK {
				t.Errorf("%v, %d: %d, error %d, want %d", context(s), client, n, e, want)
			}
		}
	}
	for client := 1; client <= 16; client++ {
		for _, c := range []dot.Context{upto(client, most-1), upto(client, 3, api.Dot{Client: client, Number: most - 1})} {
			if n, e := dot.Next(c, client); n != most || e != api.OK {
				t.Errorf("%v: %d, error %d", c, n, e)
			}
		}
		for _, c := range []dot.Context{upto(client, most), upto(client, 3, api.Dot{Client: client, Number: most}), upto(client, 3, api.Dot{Client: client, Number: 9}, api.Dot{Client: client, Number: most})} {
			if n, e := dot.Next(c, client); n != 0 || e != api.ErrBig {
				t.Errorf("%v: %d, error %d", c, n, e)
			}
			if n, e := dot.Next(c, client%16+1); n != 1 || e != api.OK {
				t.Errorf("%v, another client: %d, error %d", c, n, e)
			}
		}
	}
}

// written: a context's bytes, as the chapter tells them, whether it is one or not.
func written(c dot.Context) []byte {
	var out []byte
	num := func(n int) { out = binary.BigEndian.AppendUint64(out, uint64(n)) }
	for _, n := range c.Upto {
		num(n)
	}
	out = append(out, byte(len(c.More)))
	for _, d := range c.More {
		num(d.Client)
		num(d.Number)
	}
	return out
}

// unread: these are no context's bytes.
func unread(t *testing.T, b []byte) {
	t.Helper()
	if c, e := dot.Read(b); !equal(c, dot.Context{}) || e != api.ErrDecode {
		t.Errorf("%x: %v, error %d", b, c, e)
	}
}

func contexts() []dot.Context {
	out := edges()
	for _, s := range drawn(8, tries) {
		out = append(out, context(s))
	}
	return out
}

// P14.1, P14.3: a context's bytes, and the context back from them.
func TestWritten(t *testing.T) {
	for _, c := range contexts() {
		b, e := dot.Write(c)
		if !bytes.Equal(b, written(c)) || e != api.OK {
			t.Errorf("%v: %x, error %d", c, b, e)
		}
		got, e := dot.Read(b)
		told(t, "Read", got, e, c, api.OK)
	}
}

// P14.1: what isn't a context isn't read, though its bytes are in form; nor is less or more than its bytes.
func TestReadErrors(t *testing.T) {
	for _, w := range noContexts() {
		unread(t, written(w.c))
	}
	unread(t, nil)
	for _, c := range edges() {
		b := written(c)
		for n := range b {
			unread(t, b[:n])
		}
		for n := 1; n < 20; n++ {
			unread(t, append(slices.Clone(b), make([]byte, n)...))
		}
		unread(t, append(slices.Clone(b), b...))
		for _, count := range []int{len(c.More) - 1, len(c.More) + 1, 33, 255} {
			other := slices.Clone(b)
			other[128] = byte(count)
			unread(t, other)
		}
	}
	unread(t, bytes.Repeat([]byte{0xff}, 10_000))
	unread(t, make([]byte, 1<<20))
}

// P14.3: no other bytes are a context's: with any bit changed they are another one's, or none's.
func TestNoOtherBytes(t *testing.T) {
	for _, c := range contexts()[:100] {
		b := written(c)
		for at := range 8 * len(b) {
			other := slices.Clone(b)
			other[at/8] ^= 1 << (at % 8)
			got, e := dot.Read(other)
			if e == api.OK && (equal(got, c) || !bytes.Equal(written(got), other) || dot.Check(got) != api.OK) || e != api.OK && (e != api.ErrDecode || !equal(got, dot.Context{})) {
				t.Errorf("%v, bit %d changed: %v, error %d", c, at, got, e)
			}
		}
	}
}

// roomy: a context with spare room behind More, and a look whether any of it was changed.
func roomy(c dot.Context) (dot.Context, func() bool) {
	whole := slices.Concat(c.More, every(7, 5, 40))
	was := slices.Clone(whole)
	return dot.Context{Upto: c.Upto, More: whole[:len(c.More)]}, func() bool { return !slices.Equal(whole, was) }
}

// spoil writes over More, and behind it.
func spoil(c dot.Context) {
	for i := range c.More {
		c.More[i].Number += 1000
	}
	_ = append(c.More, every(9, 9, 3)...)
}

// P14.4: what is handed in isn't changed, its spare room neither; what is answered is new memory.
func TestNewMemory(t *testing.T) {
	for _, a := range contexts()[:150] {
		c, changed := roomy(a)
		o, changedToo := roomy(edges()[5])
		for _, d := range append(slices.Clone(a.More), universe()[:5]...) {
			dot.Has(c, d)
			first, _ := dot.Add(c, d)
			second, e := dot.Add(c, d)
			was := slices.Clone(second.More)
			spoil(first)
			if e == api.OK && !slices.Equal(second.More, was) {
				t.Errorf("%v, %v: two answers share memory", a, d)
			}
		}
		for _, pair := range [][2]dot.Context{{c, o}, {o, c}, {c, c}, {c, {}}, {{}, c}} {
			got, _ := dot.Join(pair[0], pair[1])
			spoil(got)
		}
		dot.Check(c)
		dot.Covers(c, o)
		dot.Covers(o, c)
		dot.Same(c, o)
		dot.Next(c, 3)
		b, _ := dot.Write(c)
		if changed() || changedToo() {
			t.Errorf("%v was changed", a)
		}
		whole := append(slices.Clone(b), make([]byte, 99)...)
		first, _ := dot.Read(whole[:len(b)])
		second, e := dot.Read(whole[:len(b)])
		spoil(first)
		if !bytes.Equal(whole, append(slices.Clone(b), make([]byte, 99)...)) {
			t.Errorf("%v: its bytes were changed", a)
		}
		for i := range whole {
			whole[i] ^= 0x55
		}
		told(t, "read, and spoilt", second, e, a, api.OK)
	}
}

// P14.4, P1: of what is refused nothing is changed either; all calls end, without a panic, at arguments of all kinds.
func TestAllArguments(t *testing.T) {
	all := edges()
	for _, w := range noContexts() {
		all = append(all, w.c)
	}
	dots := append(noDots(), universe()[:3]...)
	for i, a := range all {
		c, changed := roomy(a)
		other := all[(i*7+3)%len(all)]
		for _, d := range dots {
			dot.Has(c, d)
			dot.Add(c, d)
			dot.Next(c, d.Client)
			dot.Next(c, d.Number)
		}
		dot.Check(c)
		dot.Covers(c, other)
		dot.Covers(other, c)
		dot.Same(c, other)
		dot.Join(c, other)
		dot.Join(other, c)
		dot.Write(c)
		dot.Read(written(c))
		if changed() {
			t.Errorf("%v was changed", a)
		}
	}
}
