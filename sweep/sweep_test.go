package sweep_test

import (
	"bytes"
	"math/rand/v2"
	"slices"
	"testing"

	"casket/api"
	"casket/client"
	"casket/dot"
	"casket/envelope"
	"casket/sibling"
	"casket/sweep"
	"casket/vault"
)

var (
	secret  = [32]byte{2, 7, 1, 8}
	noNames = [][]byte{nil, {}, make([]byte, 65), make([]byte, 1000)}
	name    = []byte("name")
)

// both: a new vault of each kind, of the same secret.
func both() map[string]*vault.Vault {
	return map[string]*vault.Vault{"real": vault.Real(secret), "ideal": vault.Ideal(secret)}
}

func at(client, number int) api.Dot { return api.Dot{Client: client, Number: number} }

// past: of some dots.
func past(dots ...api.Dot) dot.Context {
	var c dot.Context
	for _, d := range dots {
		c, _ = dot.Add(c, d)
	}
	return c
}

// made: a client that is in this epoch.
func made(t *testing.T, id, epoch int, v *vault.Vault) *client.Client {
	t.Helper()
	c, e := client.New(id, v)
	if e != api.OK {
		t.Fatal(e)
	}
	for c.Epoch() < epoch {
		if e := c.Rotate(); e != api.OK {
			t.Fatal(e)
		}
	}
	return c
}

// wrote: a write that isn't refused; an empty value is a deletion.
func wrote(t *testing.T, c *client.Client, value string, past dot.Context) sibling.Sibling {
	t.Helper()
	_, s, e := c.Write(name, []byte(value), value == "", past)
	if e != api.OK {
		t.Fatalf("Write: error %d", e)
	}
	return s
}

func list(l ...sibling.Sibling) []sibling.Sibling { return l }

func sameValue(a, b client.Value) bool {
	return a.Dot == b.Dot && a.Epoch == b.Epoch && dot.Same(a.Past, b.Past) && a.Deleted == b.Deleted && bytes.Equal(a.Bytes, b.Bytes)
}

// rewrites: l, to siblings that say this.
func rewrites(t *testing.T, what string, c *client.Client, l []sibling.Sibling, want ...client.Value) []sibling.Sibling {
	t.Helper()
	out, e := sweep.Rewrite(c, name, l)
	got, passed, _ := c.Read(name, out)
	if e != api.OK || passed != 0 || !slices.EqualFunc(got, want, sameValue) {
		t.Errorf("%s: error %d, %v, want %v", what, e, got, want)
	}
	return out
}

func refuses(t *testing.T, what string, want api.Errno, c *client.Client, name []byte, l []sibling.Sibling) {
	t.Helper()
	if out, e := sweep.Rewrite(c, name, l); len(out) != 0 || e != want {
		t.Errorf("%s: %d siblings, error %d, want %d", what, len(out), e, want)
	}
}

func isDone(t *testing.T, what string, want bool, c *client.Client, name []byte, l []sibling.Sibling) {
	t.Helper()
	if sweep.Done(c, name, l) != want {
		t.Errorf("%s: done: %t", what, !want)
	}
}

// P28.1: the chapter's example.
func TestNothing(t *testing.T) {
	for kind, v := range both() {
		for _, epoch := range []int{1, 5} {
			c := made(t, 1, epoch, v)
			for _, l := range [][]sibling.Sibling{nil, {}} {
				rewrites(t, kind, c, l)
				isDone(t, kind, true, c, name, l)
			}
			if c.Sealed() != 0 {
				t.Error("something was sealed")
			}
		}
	}
}

// P28.1: what is of an elder epoch is written anew, in the order in which it stands, with the same value, and having seen what it had seen, and it; nothing else.
func TestRewrite(t *testing.T) {
	for kind, v := range both() {
		a, b, c := made(t, 1, 1, v), made(t, 2, 2, v), made(t, 3, 3, v)
		x, gone := wrote(t, a, "x", past(at(9, 2))), wrote(t, a, "", dot.Context{})
		y := wrote(t, b, "y", past(at(1, 1)))
		z := wrote(t, c, "z", dot.Context{})
		l := list(y, x, z, sibling.Sibling{Dot: at(5, 5)}, gone, sibling.Sibling{Dot: at(2, 1), Body: x.Body})
		isDone(t, kind+", a", true, a, name, l)
		rewrites(t, kind+", a", a, l)
		isDone(t, kind+", b", false, b, name, l)
		rewrites(t, kind+", b", b, l,
			client.Value{Dot: at(2, 2), Epoch: 2, Past: past(at(9, 2), at(1, 1)), Bytes: []byte("x")},
			client.Value{Dot: at(2, 3), Epoch: 2, Past: past(at(1, 2)), Deleted: true})
		isDone(t, kind+", c", false, c, name, l)
		anew := rewrites(t, kind+", c", c, l,
			client.Value{Dot: at(3, 2), Epoch: 3, Past: past(at(1, 1), at(2, 1)), Bytes: []byte("y")},
			client.Value{Dot: at(3, 3), Epoch: 3, Past: past(at(9, 2), at(1, 1)), Bytes: []byte("x")},
			client.Value{Dot: at(3, 4), Epoch: 3, Past: past(at(1, 2)), Deleted: true})
		isDone(t, kind+", what was rewritten", true, c, name, anew)
		rewrites(t, kind+", what was rewritten", c, anew)
		for _, s := range []sibling.Sibling{x, y, gone} {
			isDone(t, kind+", an elder one behind", false, c, name, append(slices.Clone(anew), s))
			isDone(t, kind+", an elder one ahead", false, c, name, append(list(s), anew...))
		}
		if a.Sealed() != 2 || b.Sealed() != 3 || c.Sealed() != 4 {
			t.Errorf("%s: sealed %d, %d, %d", kind, a.Sealed(), b.Sealed(), c.Sealed())
		}
	}
}

// P28.1: of an epoch beyond the client's nothing is rewritten; what is another name's, or nobody's, is left.
func TestLeft(t *testing.T) {
	for kind, v := range both() {
		a, b := made(t, 1, 1, v), made(t, 2, 2, v)
		_, other, _ := a.Write([]byte("other"), []byte("x"), false, dot.Context{})
		later := wrote(t, made(t, 3, 4, v), "x", dot.Context{})
		l := list(other, later, sibling.Sibling{}, sibling.Sibling{Dot: at(1, 1)}, sibling.Sibling{Dot: other.Dot, Past: past(at(4, 4)), Body: other.Body})
		rewrites(t, kind, b, l)
		isDone(t, kind, true, b, name, l)
		isDone(t, kind+", its own name", false, b, []byte("other"), l)
		if b.Sealed() != 0 {
			t.Errorf("%s: sealed %d", kind, b.Sealed())
		}
	}
}

// P28.1, P1: no client, and no name.
func TestErrArg(t *testing.T) {
	for kind, v := range both() {
		s := wrote(t, made(t, 1, 1, v), "x", dot.Context{})
		c := made(t, 2, 2, v)
		for _, l := range [][]sibling.Sibling{nil, list(s), list(s, sibling.Sibling{})} {
			for _, none := range []*client.Client{nil, {}} {
				for _, n := range append(noNames, name) {
					refuses(t, kind+", no client", api.ErrArg, none, n, l)
					isDone(t, kind+", no client", false, none, n, l)
				}
			}
			for _, n := range noNames {
				refuses(t, kind+", no name", api.ErrArg, c, n, l)
				isDone(t, kind+", no name", false, c, n, l)
			}
		}
		if c.Sealed() != 0 {
			t.Errorf("%s: sealed %d", kind, c.Sealed())
		}
	}
}

// full: a context of 32 dots beside each other.
func full() dot.Context {
	var c dot.Context
	for i := range api.MaxDots {
		c.More = append(c.More, at(9, 2*i+2))
	}
	return c
}

// P28.1: a write that can't be said to be seen, too, is dot.Add's error; the numbers of those ahead of it are used up.
func TestErrContext(t *testing.T) {
	for kind, v := range both() {
		a, c := made(t, 1, 1, v), made(t, 2, 2, v)
		first, second := wrote(t, a, "x", full()), wrote(t, a, "y", full())
		rewrites(t, kind+", that fits", c, list(first), client.Value{Dot: at(2, 1), Epoch: 2, Past: past(append(full().More, at(1, 1))...), Bytes: []byte("x")})
		refuses(t, kind+", the second one", api.ErrContext, c, name, list(second))
		if c.Sealed() != 1 {
			t.Errorf("%s: sealed %d", kind, c.Sealed())
		}
		refuses(t, kind+", behind another one", api.ErrContext, c, name, list(first, second, first))
		if s := wrote(t, c, "z", dot.Context{}); s.Dot != at(2, 3) || c.Sealed() != 3 {
			t.Errorf("%s: dot %v, sealed %d", kind, s.Dot, c.Sealed())
		}
		isDone(t, kind, false, c, name, list(second))
	}
}

// P28.1: a write that has seen what it would be itself: it was another one's, of the same number.
func TestOwnDotSeen(t *testing.T) {
	for kind, v := range both() {
		a, c := made(t, 1, 1, vault.Real(secret)), made(t, 1, 2, v)
		if v.Ideal() {
			a = made(t, 1, 1, v)
		}
		first, second := wrote(t, a, "x", dot.Context{}), wrote(t, a, "y", dot.Context{})
		refuses(t, kind, api.ErrContext, c, name, list(first))
		refuses(t, kind, api.ErrContext, c, name, list(first, second))
		if c.Sealed() != 0 {
			t.Errorf("%s: sealed %d", kind, c.Sealed())
		}
		isDone(t, kind, false, c, name, list(first))
	}
}

// P28.1: a number that the vault has used up is its error; what was written ahead of it is lost.
func TestErrSpent(t *testing.T) {
	for kind, v := range both() {
		a, c := made(t, 1, 1, v), made(t, 2, 2, v)
		l := list(wrote(t, a, "x", dot.Context{}), wrote(t, a, "y", dot.Context{}), wrote(t, a, "z", dot.Context{}))
		if _, e := v.Seal(1, 2, 2, nil, nil); e != api.OK { // c's second sealing was another one's
			t.Fatal(e)
		}
		refuses(t, kind, api.ErrSpent, c, name, l)
		if c.Sealed() != 1 {
			t.Errorf("%s: sealed %d", kind, c.Sealed())
		}
		anew := rewrites(t, kind+", again", c, l,
			client.Value{Dot: at(2, 2), Epoch: 2, Past: past(at(1, 1)), Bytes: []byte("x")},
			client.Value{Dot: at(2, 3), Epoch: 2, Past: past(at(1, 2)), Bytes: []byte("y")},
			client.Value{Dot: at(2, 4), Epoch: 2, Past: past(at(1, 3)), Bytes: []byte("z")})
		isDone(t, kind, true, c, name, anew)
	}
}

// P28.1: values of all classes, and the longest one.
func TestLengths(t *testing.T) {
	for kind, v := range both() {
		a, c := made(t, 1, 1, v), made(t, 2, 2, v)
		for i, n := range []int{0, 1, 59, 60, 251, 252, 1019, 1020, 3998, 3999} {
			value := bytes.Repeat([]byte{byte(n)}, n)
			_, s, e := a.Write(name, value, false, dot.Context{})
			if e != api.OK {
				t.Fatal(e)
			}
			out := rewrites(t, kind, c, list(s), client.Value{Dot: at(2, i+1), Epoch: 2, Past: past(s.Dot), Bytes: value})
			if len(out) != 1 || sealedSize(out[0]) != sealedSize(s) {
				t.Errorf("%s: %d bytes are of another size", kind, n)
			}
		}
	}
}

func sealedSize(s sibling.Sibling) int {
	e, _ := envelope.Read(s.Body)
	return len(e.Sealed)
}

// world: clients of a vault, and the siblings that their writes of one name come to; and twins, that are told the same.
type world struct {
	t       *testing.T
	rng     *rand.Rand
	clients []*client.Client
	twins   []*client.Client
	set     []sibling.Sibling
}

func newWorld(t *testing.T, kind string, seed uint64) *world {
	t.Helper()
	w := &world{t: t, rng: rand.New(rand.NewPCG(28, seed))}
	v, twin := both()[kind], both()[kind]
	for i := range 1 + w.rng.IntN(5) {
		w.clients, w.twins = append(w.clients, made(t, i+1, 1, v)), append(w.twins, made(t, i+1, 1, twin))
	}
	return w
}

// write: of some client, that has seen some of the siblings, and what they have seen.
func (w *world) write() {
	w.t.Helper()
	var seen dot.Context
	for _, s := range w.set {
		if w.rng.IntN(3) > 0 {
			continue
		}
		one, e := sibling.Seen(list(s))
		if e == api.OK {
			one, e = dot.Join(seen, one)
		}
		if e == api.OK && len(one.More) <= 16 { // so that there is room for the dots of sweeps, too
			seen = one
		}
	}
	i, deleted, value := w.rng.IntN(len(w.clients)), w.rng.IntN(4) == 0, []byte{byte(w.rng.IntN(5))}
	_, s, e := w.clients[i].Write(name, value, deleted, seen)
	w.twins[i].Write(name, value, deleted, seen)
	if e == api.OK {
		w.set, e = sibling.Put(w.set, s)
	}
	if e != api.OK {
		w.t.Fatal(e)
	}
}

// says: what all siblings say, sorted.
func (w *world) says(l []sibling.Sibling) []string {
	w.t.Helper()
	values, passed, e := w.clients[0].Read(name, l)
	if passed > 0 || e != api.OK || len(values) != len(l) {
		w.t.Fatalf("%d of %d told, error %d", len(values), len(l), e)
	}
	var out []string
	for _, v := range values {
		if v.Deleted {
			out = append(out, "deleted")
			continue
		}
		out = append(out, "value "+string(v.Bytes))
	}
	slices.Sort(out)
	return out
}

// rewritten: what the chapter tells, by a twin.
func (w *world) rewritten(c *client.Client, l []sibling.Sibling) []sibling.Sibling {
	w.t.Helper()
	values, _, _ := c.Read(name, l)
	var out []sibling.Sibling
	for _, v := range values {
		if v.Epoch >= c.Epoch() {
			continue
		}
		seen, e := dot.Add(v.Past, v.Dot)
		if e != api.OK {
			w.t.Fatal(e)
		}
		_, s, e := c.Write(name, v.Bytes, v.Deleted, seen)
		if e != api.OK {
			w.t.Fatal(e)
		}
		out = append(out, s)
	}
	return out
}

// sweep: by a client, once it is in the last epoch of all.
func (w *world) sweep() {
	w.t.Helper()
	i, last := w.rng.IntN(len(w.clients)), 0
	for _, c := range w.clients {
		last = max(last, c.Epoch())
	}
	c, twin := w.clients[i], w.twins[i]
	for c.Epoch() < last+w.rng.IntN(2) {
		c.Rotate()
		twin.Rotate()
	}
	done := !slices.ContainsFunc(w.set, func(s sibling.Sibling) bool {
		l, _, _ := twin.Read(name, list(s))
		return l[0].Epoch < c.Epoch()
	})
	isDone(w.t, "ahead", done, c, name, w.set)
	anew, e := sweep.Rewrite(c, name, w.set)
	if want := w.rewritten(twin, w.set); e != api.OK || !sibling.Same(anew, want) || done != (len(anew) == 0) {
		w.t.Fatalf("error %d, %v, want %v", e, anew, want)
	}
	w.merged(anew, c.Epoch())
	isDone(w.t, "behind", true, c, name, w.set)
}

// merged: of what was rewritten, in either order, one by one or as one: as many siblings that say the same, all of the epoch.
func (w *world) merged(anew []sibling.Sibling, epoch int) {
	w.t.Helper()
	all, e := sibling.Merge(w.set, anew)
	other, _ := sibling.Merge(anew, w.set)
	each := w.set
	for _, s := range anew {
		each, _ = sibling.Put(each, s)
	}
	if e != api.OK || sibling.Check(all) != api.OK || !sibling.Same(all, other) || !sibling.Same(all, each) {
		w.t.Fatalf("error %d, %v, %v, %v", e, all, other, each)
	}
	if len(all) != len(w.set) || !slices.Equal(w.says(all), w.says(w.set)) {
		w.t.Fatalf("%v, want %v", w.says(all), w.says(w.set))
	}
	values, _, _ := w.clients[0].Read(name, all)
	for _, v := range values {
		if v.Epoch != epoch {
			w.t.Fatalf("%v is of epoch %d, want %d", v.Dot, v.Epoch, epoch)
		}
	}
	w.set = all
}

// P28.1, P28.2: drawn writes of some clients, and sweeps.
func TestSweeps(t *testing.T) {
	for kind := range both() {
		for seed := range uint64(150) {
			w := newWorld(t, kind, seed)
			for range 60 {
				switch n := w.rng.IntN(12); {
				case n < 8:
					w.write()
				case n < 10:
					i := w.rng.IntN(len(w.clients))
					w.clients[i].Rotate()
					w.twins[i].Rotate()
				default:
					w.sweep()
				}
			}
			w.sweep()
		}
	}
}

// P28.2: of some that aren't swept, too: merged, none has seen another one, and those that are left say what they said.
func TestSweptInPart(t *testing.T) {
	v := vault.Ideal(secret)
	a, b := made(t, 1, 1, v), made(t, 2, 2, v)
	x, y, z := wrote(t, a, "x", dot.Context{}), wrote(t, a, "y", dot.Context{}), wrote(t, a, "z", dot.Context{})
	anew := rewrites(t, "in part", b, list(x, z),
		client.Value{Dot: at(2, 1), Epoch: 2, Past: past(at(1, 1)), Bytes: []byte("x")},
		client.Value{Dot: at(2, 2), Epoch: 2, Past: past(at(1, 3)), Bytes: []byte("z")})
	all, e := sibling.Merge(list(x, y, z), anew)
	if want := list(y, anew[0], anew[1]); e != api.OK || !sibling.Same(all, want) {
		t.Errorf("error %d, %v, want %v", e, all, want)
	}
	isDone(t, "in part", false, b, name, all)
}

// spoil writes over a sibling's lists, and behind them.
func spoil(s sibling.Sibling) {
	for i := range s.Body {
		s.Body[i] ^= 0x55
	}
	for i := range s.Past.More {
		s.Past.More[i] = at(66, 66)
	}
	_, _ = append(s.Body, 1, 2), append(s.Past.More, at(66, 67))
}

// deep: a sibling that shares no memory with s, with spare room, and a look whether any of it was changed.
func deep(s sibling.Sibling) (sibling.Sibling, func() bool) {
	body := append(slices.Clone(s.Body), bytes.Repeat([]byte{0xee}, 40)...)
	more := append(slices.Clone(s.Past.More), slices.Repeat([]api.Dot{at(77, 77)}, 40)...)
	wasBody, wasMore := slices.Clone(body), slices.Clone(more)
	out := sibling.Sibling{Dot: s.Dot, Past: dot.Context{Upto: s.Past.Upto, More: more[:len(s.Past.More)]}, Body: body[:len(s.Body)]}
	return out, func() bool { return !bytes.Equal(body, wasBody) || !slices.Equal(more, wasMore) }
}

// P28.3: what is handed in isn't changed and not kept; the siblings of an answer share no memory, with it or with each other.
func TestMemory(t *testing.T) {
	for kind, v := range both() {
		a, c := made(t, 1, 1, v), made(t, 2, 2, v)
		s := wrote(t, a, "value", past(at(3, 2), at(4, 4)))
		handed, changed := deep(s)
		n := append(slices.Clone(name), 7, 7, 7)
		whole := list(handed, handed, sibling.Sibling{Dot: at(9, 9)})
		if !sibling.Same(whole[:2], list(s, s)) || sweep.Done(c, n[:len(name)], whole[:2]) {
			t.Fatalf("%s: done", kind)
		}
		out, e := sweep.Rewrite(c, n[:len(name)], whole[:2])
		if e != api.OK || len(out) != 2 {
			t.Fatalf("%s: error %d, %d siblings", kind, e, len(out))
		}
		if changed() || !bytes.Equal(n, append(slices.Clone(name), 7, 7, 7)) || whole[2].Dot != at(9, 9) || !sibling.Same(whole[:2], list(s, s)) {
			t.Errorf("%s: what was handed in was changed", kind)
		}
		second, _ := deep(out[1])
		spoil(handed)
		n[0]++
		seen := past(at(3, 2), at(4, 4), at(1, 1))
		want := client.Value{Dot: at(2, 1), Epoch: 2, Past: seen, Bytes: []byte("value")}
		if l, _, e := c.Read(name, out); e != api.OK || len(l) != 2 || !sameValue(l[0], want) || l[1].Dot != at(2, 2) {
			t.Errorf("%s: error %d, %v, want %v", kind, e, l, want)
		}
		spoil(out[0])
		if !sibling.Same(out[1:], list(second)) || !dot.Same(out[1].Past, seen) {
			t.Errorf("%s: two siblings share memory", kind)
		}
		rewrites(t, kind+", anew", c, list(s), client.Value{Dot: at(2, 3), Epoch: 2, Past: seen, Bytes: []byte("value")})
	}
}
