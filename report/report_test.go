package report_test

import (
	"fmt"
	"math"
	"math/rand/v2"
	"slices"
	"strings"
	"testing"

	"casket/api"
	"casket/cluster"
	"casket/merkle"
	"casket/msg"
	"casket/report"
	"casket/ring"
	"casket/script"
	"casket/sibling"
	"casket/view"
)

const front = 3 // the usual system's box of who asks

func usual() script.Config {
	c := cluster.Config{Replicas: 3, Points: 3, N: 3, R: 2, W: 2, Wait: 5, Sectors: 600}
	return script.Config{Cluster: c, Clients: 12, Seed: [32]byte{3, 5}}
}

func made(t *testing.T, c script.Config) *script.System {
	t.Helper()
	s, e := script.New(c)
	if e != api.OK {
		t.Fatalf("New: error %d", e)
	}
	return s
}

func does(t *testing.T, s *script.System, l ...script.Step) {
	t.Helper()
	for i, x := range l {
		if e := s.Do(x); e != api.OK {
			t.Fatalf("step %d (%+v): error %d", i, x, e)
		}
	}
}

func put(client int, name, value string) script.Step {
	return script.Step{Kind: script.Put, Client: client, Name: []byte(name), Value: []byte(value)}
}

func get(client int, name string) script.Step {
	return script.Step{Kind: script.Get, Client: client, Name: []byte(name)}
}

func settle() script.Step { return script.Step{Kind: script.Settle} }

func lose(box int) script.Step { return script.Step{Kind: script.Lose, Box: box} }

// reads: just this.
func reads(t *testing.T, what, got string, want ...string) {
	t.Helper()
	text := ""
	for _, line := range want {
		text += line + "\n"
	}
	if got != text {
		t.Errorf("%s: %q, want %q", what, got, text)
	}
}

// P35.1: the chapter's example.
func TestNew(t *testing.T) {
	for replicas := 1; replicas <= 8; replicas++ {
		c := usual()
		c.Cluster.Replicas, c.Cluster.N, c.Cluster.R, c.Cluster.W = replicas, 1, 1, 1
		s := made(t, c)
		var each, pairs []string
		for r := range replicas {
			each = append(each, fmt.Sprintf("replica %d: 0 keys, 0 siblings, 0 hints", r))
			for b := r + 1; b < replicas; b++ {
				pairs = append(pairs, fmt.Sprintf("pair %d %d: same", r, b))
			}
		}
		reads(t, "Replicas", report.Replicas(s), each...)
		reads(t, "Pairs", report.Pairs(s), pairs...)
		reads(t, "Results", report.Results(s))
	}
}

// P35.1: keys, siblings and hints of each replica; what each two have unlike.
func TestKept(t *testing.T) {
	s := made(t, usual())
	does(t, s, put(1, "a", "x"), put(2, "a", "y"), put(1, "b", "z"), settle())
	reads(t, "all", report.Replicas(s), "replica 0: 2 keys, 3 siblings, 0 hints", "replica 1: 2 keys, 3 siblings, 0 hints", "replica 2: 2 keys, 3 siblings, 0 hints")
	reads(t, "all", report.Pairs(s), "pair 0 1: same", "pair 0 2: same", "pair 1 2: same")
	does(t, s, put(3, "a", "u"), lose(1), settle(), put(3, "c", "v"), lose(0), lose(1), settle(), put(3, "b", "w"), lose(0), lose(1), settle())
	reads(t, "some", report.Replicas(s), "replica 0: 2 keys, 4 siblings, 0 hints", "replica 1: 2 keys, 3 siblings, 0 hints", "replica 2: 3 keys, 6 siblings, 0 hints")
	reads(t, "some", report.Pairs(s), "pair 0 1: unlike in 1", "pair 0 2: unlike in 2", "pair 1 2: unlike in 3")
	does(t, s, script.Step{Kind: script.Compare, Box: 1, K: 0}, settle())
	reads(t, "compared", report.Pairs(s), "pair 0 1: same", "pair 0 2: unlike in 2", "pair 1 2: unlike in 2")
}

// P35.1: hints for all others count together, and are no keys.
func TestHints(t *testing.T) {
	c := usual()
	c.Cluster.Replicas, c.Cluster.N, c.Cluster.R, c.Cluster.W = 5, 3, 1, 1
	s := made(t, c)
	for r := range 5 {
		does(t, s, script.Step{Kind: script.Down, Box: r})
	}
	does(t, s, script.Step{Kind: script.Up, Box: 2})
	for i := range 30 {
		does(t, s, put(1, string(rune('a'+i)), "x"), settle())
	}
	keys, hints := 0, 0
	circle, _ := ring.New(5, 3)
	for i := range 30 {
		key, _ := s.Client(1).Key([]byte(string(rune('a' + i))))
		if l, _ := circle.Prefer(key, 3); slices.Contains(l, 2) {
			keys++
		} else {
			hints++
		}
	}
	line := fmt.Sprintf("replica 2: %d keys, %d siblings, %d hints", keys, keys, hints)
	none := ": 0 keys, 0 siblings, 0 hints"
	reads(t, "hints", report.Replicas(s), "replica 0"+none, "replica 1"+none, line, "replica 3"+none, "replica 4"+none)
	if keys == 0 || hints == 0 {
		t.Errorf("%d keys, %d hints", keys, hints)
	}
	whom := map[bool]int{}
	for to := range 5 {
		whom[len(s.Cluster().Replica(2).Shelf().Hints(to)) > 0]++
	}
	if whom[true] < 2 {
		t.Error("all hints are for one replica")
	}
	does(t, s, put(2, "a", "y"), settle()) // one more sibling, of a set or of a hint
	siblings := keys
	key, _ := s.Client(1).Key([]byte("a"))
	if l, _ := circle.Prefer(key, 3); slices.Contains(l, 2) {
		siblings++
	}
	reads(t, "one more", strings.Split(report.Replicas(s), "\n")[2]+"\n", fmt.Sprintf("replica 2: %d keys, %d siblings, %d hints", keys, siblings, hints))
}

// P35.1: what became of each operation.
func TestResults(t *testing.T) {
	s := made(t, usual())
	does(t, s, put(1, "a", "x"), put(12, "a", "y"), settle(), get(3, "a"), settle(), get(3, "b"), get(10, "a"))
	key, _ := s.Client(1).Key([]byte("a"))
	set, _ := sibling.Write([]sibling.Sibling{{Dot: api.Dot{Client: 7, Number: 7}}})
	raw, _ := msg.Write(msg.Msg{Kind: msg.Store, From: front, Ask: 2, Row: msg.Row{Key: key, Set: set}})
	for r := range 3 {
		s.Cluster().Net().Send(r, raw)
	}
	want := []string{"0 client 1 put: done", "1 client 12 put: done", "2 client 3 get: done with 2 values, 0 passed, handle 1"}
	reads(t, "under way", report.Results(s), append(want, "3 client 3 get: under way", "4 client 10 get: under way")...)
	does(t, s, settle(), get(2, "a"), settle(), put(5, "c", "z"), get(1, "c"))
	want = append(want, "3 client 3 get: done with 0 values, 0 passed, handle 2", "4 client 10 get: done with 2 values, 0 passed, handle 3", "5 client 2 get: done with 2 values, 1 passed, handle 4")
	reads(t, "done", report.Results(s), append(want, "6 client 5 put: under way", "7 client 1 get: under way")...)
	for range 6 {
		does(t, s, script.Step{Kind: script.Tick})
	}
	want = append(want, "6 client 5 put: error 12", "7 client 1 get: error 12")
	reads(t, "late", report.Results(s), want...)
	does(t, s, settle(), script.Step{Kind: script.Delete, Client: 4, Name: []byte("a"), Handle: 4}, settle(), script.Step{Kind: script.Rotate, Client: 2}, script.Step{Kind: script.Sweep, Client: 2, Name: []byte("a")})
	want = append(want, "8 client 4 put: done", "9 client 2 put: under way", "10 client 2 put: under way")
	reads(t, "swept", report.Results(s), want...)
}

// P1, P35.1: of no system nothing is told.
func TestNil(t *testing.T) {
	for _, s := range []*script.System{nil, new(script.System)} {
		reads(t, "Replicas", report.Replicas(s))
		reads(t, "Pairs", report.Pairs(s))
		reads(t, "Results", report.Results(s))
	}
}

// drawnKeys: some, a few of them twice.
func drawnKeys(rng *rand.Rand, n int) []api.Blind {
	var out []api.Blind
	for range n {
		var key api.Blind
		for i := range key {
			key[i] = byte(rng.IntN(256))
		}
		out = append(out, key)
		if rng.IntN(5) == 0 {
			out = append(out, out[rng.IntN(len(out))])
		}
	}
	return out
}

// P35.1, P35.2: how many of the keys each replica has: n times all of them, together.
func TestShares(t *testing.T) {
	reads(t, "no keys", report.Shares(2, 1, 1, nil), "replica 0: 0 of 0", "replica 1: 0 of 0")
	reads(t, "one replica", report.Shares(1, 64, 1, make([]api.Blind, 3)), "replica 0: 3 of 3")
	reads(t, "all replicas", report.Shares(3, 2, 3, make([]api.Blind, 12)), "replica 0: 12 of 12", "replica 1: 12 of 12", "replica 2: 12 of 12")
	for seed := range uint64(200) {
		rng := rand.New(rand.NewPCG(351, seed))
		replicas, points := 1+rng.IntN(8), 1+rng.IntN(64)
		n := 1 + rng.IntN(replicas)
		keys := drawnKeys(rng, rng.IntN(60))
		circle, _ := ring.New(replicas, points)
		counts := map[int]int{}
		for _, key := range keys {
			for _, r := range circle.Walk(key)[:n] {
				counts[r]++
			}
		}
		var want []string
		sum := 0
		for r := range replicas {
			sum += counts[r]
			want = append(want, fmt.Sprintf("replica %d: %d of %d", r, counts[r], len(keys)))
		}
		got := report.Shares(replicas, points, n, keys)
		reads(t, "drawn", got, want...)
		told := 0
		for line := range strings.Lines(got) {
			var r, k, of int
			fmt.Sscanf(line, "replica %d: %d of %d", &r, &k, &of)
			told += k
		}
		if told != n*len(keys) || sum != told {
			t.Errorf("seed %d: %d in all, want %d times %d", seed, told, n, len(keys))
		}
	}
}

// P35.1: where there is no ring.
func TestNoRing(t *testing.T) {
	keys := make([]api.Blind, 2)
	for _, x := range []struct{ replicas, points, n int }{
		{0, 1, 1}, {-1, 1, 1}, {9, 1, 1}, {math.MaxInt, 1, 1}, {math.MinInt, 1, 1}, {3, 0, 1}, {3, -1, 1}, {3, 65, 1}, {3, math.MaxInt, 1}, {3, math.MinInt, 1},
		{3, 3, 0}, {3, 3, -1}, {3, 3, 4}, {3, 3, math.MaxInt}, {3, 3, math.MinInt}, {0, 0, 0}, {9, 3, 9},
	} {
		reads(t, fmt.Sprint(x), report.Shares(x.replicas, x.points, x.n, keys), "no ring")
		reads(t, fmt.Sprint(x), report.Shares(x.replicas, x.points, x.n, nil), "no ring")
	}
	reads(t, "most", report.Shares(8, 64, 8, nil), "replica 0: 0 of 0", "replica 1: 0 of 0", "replica 2: 0 of 0", "replica 3: 0 of 0", "replica 4: 0 of 0", "replica 5: 0 of 0", "replica 6: 0 of 0", "replica 7: 0 of 0")
}

// model: what the chapter tells of a system, by what its parts tell.
func model(s *script.System, replicas int) string {
	out := ""
	for r := range replicas {
		x := s.Cluster().Replica(r)
		siblings, hints := 0, 0
		for _, key := range x.Shelf().Keys() {
			siblings += len(x.Shelf().Get(key))
		}
		for to := range 8 {
			hints += len(x.Shelf().Hints(to))
		}
		out += fmt.Sprintf("replica %d: %d keys, %d siblings, %d hints\n", r, len(x.Shelf().Keys()), siblings, hints)
	}
	for a := range replicas {
		for b := a + 1; b < replicas; b++ {
			x, y := s.Cluster().Replica(a).Tree(b), s.Cluster().Replica(b).Tree(a)
			unlike := 0
			for leaf := range 256 {
				m, _ := x.Node(4, leaf)
				n, _ := y.Node(4, leaf)
				if m != n {
					unlike++
				}
			}
			if unlike == 0 {
				out += fmt.Sprintf("pair %d %d: same\n", a, b)
			} else {
				out += fmt.Sprintf("pair %d %d: unlike in %d\n", a, b, unlike)
			}
		}
	}
	for i, r := range s.Results() {
		out += fmt.Sprintf("%d client %d %s: ", i, r.Client, map[bool]string{true: "put", false: "get"}[r.Put])
		switch {
		case !r.Done:
			out += "under way"
		case r.Err != 0:
			out += fmt.Sprintf("error %d", r.Err)
		default:
			out += "done"
			if !r.Put {
				out += fmt.Sprintf(" with %d values, %d passed, handle %d", len(r.Values), r.Passed, r.Handle)
			}
		}
		out += "\n"
	}
	return out
}

// P35.1: over drawn lives all that is told is as the chapter has it, and nothing is changed by it.
func TestDrawn(t *testing.T) {
	unlike, hints := 0, 0
	for seed := range uint64(30) {
		rng := rand.New(rand.NewPCG(352, seed))
		c := usual()
		c.Cluster.Replicas, c.Cluster.Sectors = 1+rng.IntN(8), 3000
		c.Cluster.N = 1 + rng.IntN(c.Cluster.Replicas)
		c.Cluster.R, c.Cluster.W = 1+rng.IntN(c.Cluster.N), 1+rng.IntN(c.Cluster.N)
		s := made(t, c)
		for step := range 150 {
			s.Do(drawn(rng, c))
			if step%9 != 0 {
				continue
			}
			var was [][]byte
			for r := range c.Cluster.Replicas {
				was = append(was, view.Of(s, r))
			}
			got := report.Replicas(s) + report.Pairs(s) + report.Results(s)
			if want := model(s, c.Cluster.Replicas); got != want {
				t.Fatalf("seed %d: %q, want %q", seed, got, want)
			}
			for r := range c.Cluster.Replicas {
				if string(view.Of(s, r)) != string(was[r]) {
					t.Fatalf("seed %d: replica %d was changed", seed, r)
				}
			}
			unlike += strings.Count(got, "unlike")
			hints += strings.Count(got, "hints") - strings.Count(got, " 0 hints")
		}
	}
	if unlike < 300 || hints < 200 {
		t.Errorf("only %d pairs unlike, %d with hints", unlike, hints)
	}
}

func drawn(rng *rand.Rand, c script.Config) script.Step {
	kinds := []int{1, 1, 1, 1, 1, 1, 1, 2, 3, 3, 3, 4, 5, 6, 6, 6, 6, 6, 6, 7, 7, 8, 9, 10, 11, 11, 13, 14, 15, 16, 16}
	x := script.Step{Kind: kinds[rng.IntN(len(kinds))], Client: 1 + rng.IntN(3), Name: []byte{byte(rng.IntN(12))}, Value: []byte("v"), Box: rng.IntN(c.Cluster.Replicas + 1), Handle: rng.IntN(5)}
	if x.Kind == script.Compare || x.Kind == script.Hand {
		x.K = rng.IntN(c.Cluster.Replicas)
	}
	return x
}

// P35.1: a root alone says whether two are the same; the leaves are those of both trees of the pair.
func TestPairOfSome(t *testing.T) {
	c := usual()
	c.Cluster.Replicas, c.Cluster.N, c.Cluster.R, c.Cluster.W = 4, 2, 1, 1
	s := made(t, c)
	for i := range 20 {
		does(t, s, put(1, string(rune('a'+i)), "x"), settle())
	}
	reads(t, "each pair has its own keys alone", report.Pairs(s), "pair 0 1: same", "pair 0 2: same", "pair 0 3: same", "pair 1 2: same", "pair 1 3: same", "pair 2 3: same")
	empty := merkle.New().Root()
	trees := 0
	for a := range 4 {
		for b := range 4 {
			if a != b && s.Cluster().Replica(a).Tree(b).Root() != empty {
				trees++
			}
		}
	}
	if trees < 4 {
		t.Errorf("only %d trees have keys", trees)
	}
}

// P35.1: keys that are handed in aren't changed.
func TestMemory(t *testing.T) {
	keys := drawnKeys(rand.New(rand.NewPCG(353, 0)), 20)
	was := slices.Clone(keys)
	first := report.Shares(4, 5, 2, keys[:10])
	if !slices.Equal(keys, was) {
		t.Error("keys were changed")
	}
	clear(keys)
	if again := report.Shares(4, 5, 2, was[:10]); again != first {
		t.Errorf("%q, want %q", again, first)
	}
}
