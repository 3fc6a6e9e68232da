package cluster_test

import (
	"maps"
	"math/rand/v2"
	"slices"
	"testing"

	"casket/api"
	"casket/cluster"
	"casket/dot"
	"casket/msg"
	"casket/ring"
	"casket/sibling"
)

// world: a cluster, and the writes of some keys, that come about one after the other, each by a client that has seen what a Get told, or a part of it.
type world struct {
	t      *testing.T
	rng    *rand.Rand
	c      *cluster.Cluster
	config cluster.Config
	keys   []api.Blind
	count  map[api.Blind]map[int]int
	puts   map[int]sibling.Sibling           // by their asks
	told   map[api.Blind][][]sibling.Sibling // by Gets
	ahead  map[int][]sibling.Sibling         // of a Get that isn't Done: Puts that were Done without an error when it began
	reads  int                               // Gets that were Done without an error
}

func newWorld(t *testing.T, rng *rand.Rand, config cluster.Config, keys int) *world {
	t.Helper()
	w := &world{t: t, rng: rng, c: made(t, config), config: config, count: map[api.Blind]map[int]int{}}
	w.puts, w.told, w.ahead = map[int]sibling.Sibling{}, map[api.Blind][][]sibling.Sibling{}, map[int][]sibling.Sibling{}
	for i := range keys {
		w.keys = append(w.keys, keyOf(byte(41*i), byte(i%2)))
		w.count[w.keys[i]] = map[int]int{}
	}
	return w
}

// drawnConfig: of some replicas, with a quorum that is drawn, too, and disks with room for all.
func drawnConfig(rng *rand.Rand) cluster.Config {
	c := cluster.Config{Replicas: 1 + rng.IntN(6), Points: 1 + rng.IntN(5), Wait: 20 + rng.IntN(40), Sectors: 1500}
	c.N = 1 + rng.IntN(c.Replicas)
	c.R, c.W = 1+rng.IntN(c.N), 1+rng.IntN(c.N)
	return c
}

func (w *world) key() api.Blind { return w.keys[w.rng.IntN(len(w.keys))] }

// write: a Put, of who has seen a part of what a Get told, all of it, or nothing.
func (w *world) write() {
	w.t.Helper()
	key := w.key()
	var past dot.Context
	if sets := w.told[key]; len(sets) > 0 {
		leave := w.rng.IntN(3)
		for _, s := range sets[w.rng.IntN(len(sets))] {
			if leave > 0 && w.rng.IntN(3) == 0 {
				continue
			}
			seen, e := sibling.Seen(setOf(s))
			if e == api.OK {
				past, e = dot.Join(past, seen)
			}
			if e != api.OK {
				w.t.Fatalf("Seen, Join: error %d", e)
			}
		}
	}
	client := 1 + w.rng.IntN(3)
	w.count[key][client]++
	s := sibling.Sibling{Dot: at(client, w.count[key][client]), Past: past, Body: []byte{byte(w.rng.IntN(256))}}
	ask, e := w.c.Put(key, s)
	if e != api.OK {
		w.t.Fatalf("Put: error %d", e)
	}
	w.puts[ask] = s
}

// read: a Get; which Puts were Done ahead of it?
func (w *world) read() {
	w.t.Helper()
	key := w.key()
	var done []sibling.Sibling
	for ask, s := range w.puts {
		if o, e := w.c.Op(ask); e != api.OK || o.Key == key && o.Done && o.Err == api.OK {
			done = append(done, s)
		}
	}
	ask, e := w.c.Get(key)
	if e != api.OK {
		w.t.Fatalf("Get: error %d", e)
	}
	w.ahead[ask] = done
}

// deliver: any message that is under way.
func (w *world) deliver() {
	box := w.rng.IntN(w.config.Replicas + 1)
	if n := w.c.Net().Len(box); n > 0 {
		w.c.Deliver(box, w.rng.IntN(n))
	}
}

// stir: a write, a read, a message that comes, is lost, or doubled, and time.
func (w *world) stir() {
	w.t.Helper()
	box := w.rng.IntN(w.config.Replicas + 1)
	switch n := w.rng.IntN(40); {
	case n < 4:
		w.write()
	case n < 8:
		w.read()
	case n < 10:
		w.c.Lose(box, 0)
	case n < 12:
		w.c.Twice(box, 0)
	case n < 14:
		w.c.Tick()
	case n < 16:
		w.c.Compare(w.rng.IntN(w.config.Replicas), w.rng.IntN(w.config.Replicas))
	case n == 16 && w.rng.IntN(3) == 0:
		w.c.Settle()
	}
	for range 3 {
		w.deliver()
	}
}

// shake: replicas that are thought to be down, hints that are handed.
func (w *world) shake() {
	r := w.rng.IntN(w.config.Replicas)
	switch w.rng.IntN(12) {
	case 0:
		w.c.Up(r, false)
	case 1:
		w.c.Up(r, true)
	case 2:
		w.c.Hand(r, w.rng.IntN(w.config.Replicas))
	}
}

// crash: a fuse, or a crash; with it what the disk likes of the loose writes stays.
func (w *world) crash() (int, bool) {
	w.t.Helper()
	r := w.rng.IntN(w.config.Replicas)
	switch w.rng.IntN(12) {
	case 0:
		w.c.Fuse(r, 1+w.rng.IntN(20))
	case 1:
		var stay []bool
		for range w.rng.IntN(6) {
			stay = append(stay, w.rng.IntN(2) == 0)
		}
		tells(w.t, "Crash", w.c.Crash(r, stay), api.OK)
		return r, true
	}
	return r, false
}

// look: at the Gets that are Done meanwhile: what they told is as P26.2 has it, and, if it is asked for, P26.3.
func (w *world) look(latest bool) {
	w.t.Helper()
	for _, ask := range slices.Sorted(maps.Keys(w.ahead)) { // the same order each time: of it hangs who writes what
		done := w.ahead[ask]
		o, e := w.c.Op(ask)
		if e != api.OK {
			w.t.Fatalf("Op(%d): error %d", ask, e)
		}
		if !o.Done {
			continue
		}
		delete(w.ahead, ask)
		if o.Err != api.OK {
			continue
		}
		w.reads++
		w.told[o.Key] = append(w.told[o.Key], o.Set)
		w.stand(o)
		for _, s := range done {
			if latest && !known(o.Set, s.Dot) {
				w.t.Fatalf("%v was Done ahead, and isn't told, nor seen: %v", s.Dot, o.Set)
			}
		}
	}
}

// stand: a Set is of Puts of the key, of which none has seen another one.
func (w *world) stand(o cluster.Op) {
	w.t.Helper()
	for i, s := range o.Set {
		is := false
		for ask, p := range w.puts {
			put, _ := w.c.Op(ask)
			is = is || put.Key == o.Key && sibling.Same(setOf(p), setOf(s))
		}
		if !is {
			w.t.Fatalf("%v isn't a Put's", s)
		}
		for k, other := range o.Set {
			if i != k && (dot.Has(s.Past, other.Dot) || s.Dot == other.Dot) {
				w.t.Fatalf("%v has seen %v, or is it", s.Dot, other.Dot)
			}
		}
	}
}

// known: is a write among siblings, or seen by one?
func known(l []sibling.Sibling, d api.Dot) bool {
	return slices.ContainsFunc(l, func(s sibling.Sibling) bool { return s.Dot == d || dot.Has(s.Past, d) })
}

// P26.2: over any order, loss, doubling, with replicas that are thought to be down, with crashes: a Get's Set is of Puts, of which none has seen another one.
func TestSetsStand(t *testing.T) {
	reads, several := 0, 0
	for seed := range uint64(80) {
		rng := rand.New(rand.NewPCG(seed, 262))
		w := newWorld(t, rng, drawnConfig(rng), 3)
		for range 250 {
			w.stir()
			w.shake()
			w.crash()
			w.look(false)
		}
		reads += w.reads
		for _, sets := range w.told {
			for _, set := range sets {
				several += min(1, len(set)/2)
			}
		}
	}
	if reads < 500 || several < 100 {
		t.Errorf("%d Gets were Done, %d told more than one sibling", reads, several)
	}
}

// P26.3: with R and W above N, all thought to be up, and no crash: each Put that was Done ahead of a Get is told by it, or seen by what is told.
func TestLatestTold(t *testing.T) {
	checked := 0
	for seed := range uint64(120) {
		rng := rand.New(rand.NewPCG(seed, 263))
		config := drawnConfig(rng)
		config.W = config.N + 1 - config.R + rng.IntN(config.R)
		w := newWorld(t, rng, config, 2)
		for range 200 {
			w.stir()
			for _, done := range w.ahead {
				checked += len(done)
			}
			w.look(true)
		}
	}
	if checked < 1000 {
		t.Errorf("%d were looked for", checked)
	}
}

// Without P26.3's bound a Put may be missed: what the test above looks for is to be met.
func TestLatestMissed(t *testing.T) {
	missed := 0
	for seed := range uint64(60) {
		rng := rand.New(rand.NewPCG(seed, 264))
		w := newWorld(t, rng, cluster.Config{Replicas: 4, Points: 3, N: 3, R: 1, W: 2, Wait: 40, Sectors: 1500}, 2)
		for range 200 {
			w.stir()
			for ask, done := range w.ahead {
				o, _ := w.c.Op(ask)
				for _, s := range done {
					if o.Done && o.Err == api.OK && !known(o.Set, s.Dot) {
						missed++
					}
				}
			}
			w.look(false)
		}
	}
	if missed == 0 {
		t.Error("R 1, W 2 of 3 never miss a Put")
	}
}

// promise: what a replica told Stored of, without an error: of a key, or of a hint for another one.
type promise struct {
	who, whom int // one, if it isn't a hint
	key       api.Blind
	dot       api.Dot
}

// promises: of all that the front was ever told.
func (w *world) promises() []promise {
	w.t.Helper()
	type told struct{ who, ask int }
	kept := map[told][]promise{}
	for r := range w.config.Replicas {
		for _, b := range w.c.Net().Seen(r) {
			m, e := msg.Read(b)
			set, f := sibling.Read(m.Row.Set)
			if e != api.OK || f != api.OK || m.From != w.config.Replicas || m.Kind != msg.Store && m.Kind != msg.Hold {
				continue
			}
			var l []promise
			for _, s := range set {
				p := promise{who: r, whom: r, key: m.Row.Key, dot: s.Dot}
				if m.Kind == msg.Hold {
					p.whom = m.For
				}
				l = append(l, p)
			}
			kept[told{r, m.Ask}] = l
		}
	}
	var out []promise
	for _, b := range w.c.Net().Seen(w.config.Replicas) {
		if m, e := msg.Read(b); e == api.OK && m.Kind == msg.Stored && m.Err == api.OK {
			out = append(out, kept[told{m.From, m.Ask}]...)
		}
	}
	return out
}

// keptAll: a replica has all that it promised, or what has seen it. (A hint that was handed isn't there any more.)
func (w *world) keptAll(r int, hints bool) int {
	w.t.Helper()
	n := 0
	for _, p := range w.promises() {
		if p.who != r || p.whom != r && !hints {
			continue
		}
		n++
		shelf := w.c.Replica(r).Shelf()
		l := shelf.Get(p.key)
		if p.whom != r {
			l = nil
			for _, h := range shelf.Hints(p.whom) {
				if h.Key == p.key {
					l = h.Set
				}
			}
		}
		if !known(l, p.dot) {
			w.t.Fatalf("replica %d promised %v for %d, and has %v", r, p.dot, p.whom, l)
		}
	}
	return n
}

// P26.4: what a replica told Stored of, without an error, it has behind each crash, or what has seen it; hints, too, if none is handed.
func TestStoredStays(t *testing.T) {
	checked, crashes := 0, 0
	for seed := range uint64(50) {
		rng := rand.New(rand.NewPCG(seed, 265))
		config := drawnConfig(rng)
		config.Sectors = []int{30, 60, 200}[rng.IntN(3)] // there isn't always room: it is compacted, and refused
		w := newWorld(t, rng, config, 3)
		handed := rng.IntN(2) == 0
		for range 200 {
			w.stir()
			if handed {
				w.shake()
			} else if rng.IntN(10) == 0 {
				w.c.Up(rng.IntN(config.Replicas), rng.IntN(2) == 0)
			}
			w.look(false)
			if r, is := w.crash(); is {
				crashes++
				checked += w.keptAll(r, !handed)
			}
		}
		for r := range config.Replicas {
			w.c.Net().Clear(r)
			tells(t, "Crash", w.c.Crash(r, nil), api.OK)
		}
		w.c.Settle() // the front is told the rest
		for r := range config.Replicas {
			checked += w.keptAll(r, !handed)
		}
	}
	if checked < 1000 || crashes < 200 {
		t.Errorf("%d promises were looked for, behind %d crashes", checked, crashes)
	}
}

// rest: what is under way comes, or doesn't; all are up, and well.
func (w *world) rest() {
	w.t.Helper()
	if w.rng.IntN(2) == 0 {
		w.c.Settle()
	}
	for r := range w.config.Replicas {
		tells(w.t, "Crash", w.c.Crash(r, nil), api.OK)
		w.c.Up(r, true)
	}
	w.c.Settle()
}

// handAll: all hints are delivered.
func (w *world) handAll() int {
	w.t.Helper()
	n := 0
	for a := range w.config.Replicas {
		for b := range w.config.Replicas {
			for w.c.Hand(a, b) == api.OK {
				w.c.Settle()
				n++
			}
			if l := w.c.Replica(a).Shelf().Hints(b); a != b && len(l) != 0 {
				w.t.Fatalf("%d hints are left", len(l))
			}
		}
	}
	return n
}

// compareAll: each pair compares, as often as there are replicas: one behind the other, or all that at once, in any order.
func (w *world) compareAll() {
	w.t.Helper()
	var pairs [][2]int
	for a := range w.config.Replicas {
		for b := range a {
			for range w.config.Replicas {
				pairs = append(pairs, [2]int{a, b})
			}
		}
	}
	if w.rng.IntN(3) > 0 {
		w.rng.Shuffle(len(pairs), func(i, k int) { pairs[i], pairs[k] = pairs[k], pairs[i] })
	}
	once := w.rng.IntN(2) == 0 && w.config.Replicas < 5 // there is room for all
	for _, p := range pairs {
		at := w.rng.IntN(2)
		tells(w.t, "Compare", w.c.Compare(p[at], p[1-at]), api.OK)
		if !once {
			w.c.Settle()
		}
	}
	for range 500 {
		w.deliver()
	}
	w.c.Settle()
}

// P26.5: when all hints were delivered, and each pair has compared, as often as there are replicas: all replicas of a key have the same, and pairs the same roots.
func TestSameEverywhere(t *testing.T) {
	unlike, hints := 0, 0
	for seed := range uint64(70) {
		rng := rand.New(rand.NewPCG(seed, 266))
		w := newWorld(t, rng, drawnConfig(rng), 6)
		for range 150 {
			w.stir()
			w.shake()
			w.crash()
			w.look(false)
		}
		w.rest()
		hints += w.handAll()
		unlike += w.unlike()
		had := map[api.Blind][]sibling.Sibling{}
		for _, key := range w.keys {
			for _, r := range w.of(key) {
				had[key], _ = sibling.Merge(had[key], w.c.Replica(r).Shelf().Get(key))
			}
		}
		w.compareAll()
		if n := w.unlike(); n != 0 {
			t.Fatalf("seed %d: %d pairs have unlike roots", seed, n)
		}
		for _, key := range w.keys {
			for _, r := range w.of(key) {
				has(t, "the same everywhere", w.c, r, key, had[key]...)
			}
		}
	}
	if unlike < 100 || hints < 100 {
		t.Errorf("%d pairs were unlike ahead, %d hints were handed", unlike, hints)
	}
}

// of: the replicas of a key.
func (w *world) of(key api.Blind) []int {
	w.t.Helper()
	circle, e := ring.New(w.config.Replicas, w.config.Points)
	if e != api.OK {
		w.t.Fatal(e)
	}
	l, e := circle.Prefer(key, w.config.N)
	if e != api.OK {
		w.t.Fatal(e)
	}
	return l
}

// unlike: how many pairs have unlike roots.
func (w *world) unlike() int {
	n := 0
	for a := range w.config.Replicas {
		for b := range a {
			if w.c.Replica(a).Tree(b).Root() != w.c.Replica(b).Tree(a).Root() {
				n++
			}
		}
	}
	return n
}
