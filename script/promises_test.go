package script_test

import (
	"bytes"
	"math/rand/v2"
	"slices"
	"testing"

	"casket/api"
	"casket/client"
	"casket/cluster"
	"casket/dot"
	"casket/msg"
	"casket/script"
	"casket/sibling"
)

// said: what a client has written for a name.
type said struct {
	name  string
	value client.Value
}

// writer: of a name.
type writer struct {
	client int
	name   string
}

// world: a system, and a book of all that its clients wrote, that is kept by what the chapters tell of a write.
type world struct {
	t       *testing.T
	rng     *rand.Rand
	s       *script.System
	c       script.Config
	book    []said
	count   map[writer]int
	looked  map[int]bool // results that were looked at when they were done
	told    int
	passed  int
	handles map[string][]int // of a name's Gets
}

func newWorld(t *testing.T, rng *rand.Rand, c script.Config) *world {
	t.Helper()
	return &world{t: t, rng: rng, s: made(t, c), c: c, count: map[writer]int{}, looked: map[int]bool{}, handles: map[string][]int{}}
}

// drawnConfig: of some replicas and clients, with quorums that are drawn, too, and disks with room for all.
func drawnConfig(rng *rand.Rand, ideal bool) script.Config {
	c := cluster.Config{Replicas: 1 + rng.IntN(5), Points: 1 + rng.IntN(4), Wait: 5 + rng.IntN(30), Sectors: 6000}
	c.N = 1 + rng.IntN(c.Replicas)
	c.R, c.W = 1+rng.IntN(c.N), 1+rng.IntN(c.N)
	return script.Config{Cluster: c, Clients: 1 + rng.IntN(4), Ideal: ideal, Seed: [32]byte{byte(rng.IntN(256))}}
}

// next: the dot of a client's next write of a name.
func (w *world) next(id int, name []byte) api.Dot {
	k := writer{id, string(name)}
	w.count[k]++
	return at(id, w.count[k])
}

// write: a Put or a Delete, that is put down in the book if it isn't refused.
func (w *world) write(handle int, name []byte) {
	w.t.Helper()
	x := put(1+w.rng.IntN(w.c.Clients), name, string([]byte{byte(w.rng.IntN(256))}), handle)
	x.Kind += w.rng.IntN(2) * w.rng.IntN(2)
	v := client.Value{Epoch: w.s.Client(x.Client).Epoch(), Past: w.s.Context(handle), Deleted: x.Kind == script.Delete}
	if !v.Deleted {
		v.Bytes = x.Value
	}
	if e := w.s.Do(x); e == api.OK {
		v.Dot = w.next(x.Client, name)
		w.book = append(w.book, said{string(name), v})
	} else if e != api.ErrContext {
		w.t.Fatalf("%+v: error %d", x, e)
	}
}

// sweep: what the last Get told, that is put down in the book anew, as far as it was sealed.
func (w *world) sweep(name []byte) {
	w.t.Helper()
	x := sweeps(1+w.rng.IntN(w.c.Clients), name)
	c := w.s.Client(x.Client)
	epoch, sealed := c.Epoch(), c.Sealed()
	var l []client.Value
	for _, r := range w.s.Results() {
		if !r.Put && r.Done && r.Err == api.OK && bytes.Equal(r.Name, name) {
			l = r.Values
		}
	}
	if e := w.s.Do(x); e != api.OK && e != api.ErrContext {
		w.t.Fatalf("%+v: error %d", x, e)
	}
	sealed = c.Sealed() - sealed
	for _, v := range l {
		if v.Epoch < epoch && sealed > 0 {
			sealed--
			v.Past, _ = dot.Add(v.Past, v.Dot)
			v.Dot, v.Epoch = w.next(x.Client, name), epoch
			w.book = append(w.book, said{string(name), v})
		}
	}
	if sealed > 0 {
		w.t.Fatalf("the sweep has sealed %d that nobody told", sealed)
	}
}

func (w *world) name() []byte { return names[w.rng.IntN(len(names))] }

// handle: of the name's Gets, of any, or none.
func (w *world) handle(name []byte, own bool) int {
	l := w.handles[string(name)]
	if !own && w.rng.IntN(8) == 0 {
		return w.rng.IntN(9)
	}
	if len(l) == 0 || w.rng.IntN(3) == 0 {
		return 0
	}
	return l[len(l)-1-w.rng.IntN(min(len(l), 3))]
}

// look: at what is done since the last look: each value was written, just so, for that name.
func (w *world) look(step int) {
	w.t.Helper()
	for i, r := range w.s.Results() {
		if !r.Done || w.looked[i] {
			continue
		}
		w.looked[i] = true
		if r.Put || r.Err != api.OK {
			continue
		}
		w.handles[string(r.Name)] = append(w.handles[string(r.Name)], r.Handle)
		w.told, w.passed = w.told+len(r.Values), w.passed+r.Passed
		for _, v := range r.Values {
			if !slices.ContainsFunc(w.book, func(s said) bool { return s.name == string(r.Name) && sameValue(s.value, v) }) {
				w.t.Fatalf("step %d: nobody has written %+v for %q", step, v, r.Name)
			}
		}
	}
}

// stir: a step of clients, of the net, of time, and, if they may be, of disks.
func (w *world) stir(own, crashes bool) {
	w.t.Helper()
	name, box := w.name(), w.rng.IntN(w.c.Cluster.Replicas+1)
	k := 0
	if n := w.s.Cluster().Net().Len(box); n > 0 {
		k = w.rng.IntN(n)
	}
	x := script.Step{Box: box, K: k, Client: 1 + w.rng.IntN(w.c.Clients), Name: name}
	switch n := w.rng.IntN(40); {
	case n < 5:
		w.write(w.handle(name, own), name)
		return
	case n < 6:
		w.sweep(name)
		return
	case n < 10:
		x.Kind = script.Get
	case n < 11:
		x.Kind = script.Rotate
	case n < 12:
		x.Kind = script.Lose
	case n < 14:
		x.Kind = script.Twice
	case n < 15:
		x.Kind = script.Tick
	case n < 16:
		x.Kind = script.Settle
	case n < 18:
		x.Kind, x.K = script.Compare, w.rng.IntN(w.c.Cluster.Replicas)
	case n < 21 && crashes:
		w.breaks(&x)
	default:
		x.Kind = script.Deliver
	}
	w.s.Do(x)
}

// breaks: what happens to a replica's disk, or is thought of it.
func (w *world) breaks(x *script.Step) {
	x.Kind = []int{script.Up, script.Up, script.Down, script.Fuse, script.Crash, script.Crash, script.Crash, script.Hand, script.Hand}[w.rng.IntN(9)]
	x.K = 1 + w.rng.IntN(40)
	if x.Kind == script.Hand {
		x.K = w.rng.IntN(w.c.Cluster.Replicas)
	}
	for range 5 {
		x.Stay = append(x.Stay, w.rng.IntN(2) == 0)
	}
}

// apart: no two of one Get's values have seen each other.
func apart(l []client.Value) bool {
	for _, v := range l {
		if slices.ContainsFunc(l, func(other client.Value) bool { return dot.Has(other.Past, v.Dot) }) {
			return false
		}
	}
	return true
}

// P29.2: without Forge, over loss, doubling, any order and crashes, by both vaults: what a Get tells was written, nothing is passed over, none has seen another one.
func TestUnforged(t *testing.T) {
	told := 0
	for seed := range uint64(80) {
		rng := rand.New(rand.NewPCG(292, seed))
		w := newWorld(t, rng, drawnConfig(rng, seed%2 == 0))
		for step := range 300 {
			w.stir(false, true)
			w.look(step)
		}
		for i, r := range w.s.Results() {
			if r.Passed != 0 || !apart(r.Values) {
				t.Fatalf("seed %d, result %d: %+v", seed, i, r)
			}
		}
		told += w.told
	}
	if told < 1000 {
		t.Errorf("only %d values told", told)
	}
}

// P29.2, P4: with R and W above N, all up and no crash: each Put that was answered ahead of a Get is among its values, or was seen by one that is.
func TestLatestTold(t *testing.T) {
	held := 0
	for seed := range uint64(60) {
		rng := rand.New(rand.NewPCG(294, seed))
		c := drawnConfig(rng, seed%2 == 0)
		c.Cluster.R = max(c.Cluster.R, c.Cluster.N+1-c.Cluster.W)
		w := newWorld(t, rng, c)
		ahead := map[int][]client.Value{} // by a Get's place, what was done when it began
		for step := range 300 {
			was := len(w.s.Results())
			done := w.done()
			w.stir(true, false)
			w.look(step)
			for i, r := range w.s.Results() {
				if i >= was && !r.Put {
					ahead[i] = done[string(r.Name)]
				}
			}
		}
		for i, r := range w.s.Results() {
			if r.Put || !r.Done || r.Err != api.OK {
				continue
			}
			for _, v := range ahead[i] {
				held++
				if !slices.ContainsFunc(r.Values, func(x client.Value) bool { return x.Dot == v.Dot || dot.Has(x.Past, v.Dot) }) {
					t.Fatalf("seed %d, result %d: %v isn't told: %+v", seed, i, v.Dot, r)
				}
			}
		}
	}
	if held < 1000 {
		t.Errorf("only %d writes were answered ahead", held)
	}
}

// done: of each name what Puts that are done without an error wrote: the cluster's operations are the results.
func (w *world) done() map[string][]client.Value {
	out := map[string][]client.Value{}
	for i, r := range w.s.Results() {
		if r.Put && r.Done && r.Err == api.OK {
			o, _ := w.s.Cluster().Op(2 * (i + 1))
			out[string(r.Name)] = append(out[string(r.Name)], client.Value{Dot: o.Set[0].Dot})
		}
	}
	return out
}

// forge: what the adversary, who sees all boxes and knows all keys, puts in the place of a message.
func (w *world) forge() {
	box := w.rng.IntN(w.c.Cluster.Replicas + 1)
	n := w.s.Cluster().Net().Len(box)
	if n == 0 {
		return
	}
	w.s.Do(script.Step{Kind: script.Forge, Box: box, K: w.rng.IntN(n), Raw: w.raw(box)})
}

func (w *world) raw(box int) []byte {
	x := msg.Msg{Kind: msg.Store, From: w.rng.IntN(w.c.Cluster.Replicas), Ask: 2 * (1 + w.rng.IntN(9))}
	l := w.s.Results()
	if box == w.c.Cluster.Replicas {
		x.Kind = msg.Fetched
		for i, r := range l {
			if !r.Put && !r.Done {
				x.Ask = 2 * (i + 1)
			}
		}
	}
	o, _ := w.s.Cluster().Op(x.Ask)
	x.Row.Key = o.Key
	var set []sibling.Sibling
	for range w.rng.IntN(5) {
		i := w.rng.IntN(len(l) + 1)
		o, _ := w.s.Cluster().Op(2 * i)
		other, _ := w.s.Cluster().Op(2 * (1 + w.rng.IntN(len(l)+1)))
		for _, s := range o.Set {
			s = w.spoilt(s, other.Set)
			if more, e := sibling.Put(set, s); e == api.OK {
				set = more
			}
		}
	}
	x.Row.Set, _ = sibling.Write(set)
	b, _ := msg.Write(x)
	return b
}

// spoilt: a sibling with a part of it changed, or of others'.
func (w *world) spoilt(s sibling.Sibling, others []sibling.Sibling) sibling.Sibling {
	switch n := w.rng.IntN(10); {
	case n < 1:
		s.Dot.Number += w.rng.IntN(3)
	case n < 2:
		s.Past, _ = dot.Add(s.Past, at(1+w.rng.IntN(4), 1+w.rng.IntN(9)))
	case n < 3 && len(s.Body) > 0:
		s.Body[w.rng.IntN(len(s.Body))] ^= 1 << w.rng.IntN(8)
	case n < 4 && len(others) > 0:
		s.Body = others[0].Body
	case n < 5 && len(others) > 0:
		s.Dot = others[0].Dot
	case n < 6 && len(others) > 0:
		s.Past = others[0].Past
	}
	return s
}

// P29.3: with an ideal vault, whatever is forged: each value of a Get was written for its name, just so.
func TestForged(t *testing.T) {
	told, passed := 0, 0
	for seed := range uint64(80) {
		rng := rand.New(rand.NewPCG(293, seed))
		w := newWorld(t, rng, drawnConfig(rng, true))
		for step := range 300 {
			if rng.IntN(4) == 0 {
				w.forge()
			} else {
				w.stir(false, true)
			}
			w.look(step)
		}
		told, passed = told+w.told, passed+w.passed
	}
	if told < 500 || passed < 500 {
		t.Errorf("only %d values told, %d passed over", told, passed)
	}
}
