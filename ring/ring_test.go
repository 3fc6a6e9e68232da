package ring_test

import (
	"cmp"
	"crypto/sha256"
	"encoding/binary"
	"math"
	"math/rand/v2"
	"slices"
	"testing"

	"casket/api"
	"casket/ring"
)

const (
	mostReplicas = 8
	mostPoints   = 64
)

// placeOf: where a point stands, as the chapter tells it, by the library's SHA-256.
func placeOf(replica, p int) uint64 {
	d := sha256.Sum256([]byte{'r', 'i', 'n', 'g', byte(replica), byte(p)})
	return binary.BigEndian.Uint64(d[:])
}

// keyAt: a key that stands at a place, with other bytes behind those that tell it.
func keyAt(place uint64, other byte) api.Blind {
	var k api.Blind
	for i := range k {
		k[i] = other
	}
	binary.BigEndian.PutUint64(k[:], place)
	return k
}

// walkOf: replicas by how far up their nearest points are, round the circle.
func walkOf(replicas, points int, place uint64) []int {
	far := make([]uint64, replicas)
	var out []int
	for r := range replicas {
		far[r] = math.MaxUint64
		for p := range points {
			far[r] = min(far[r], placeOf(r, p)-place)
		}
		out = append(out, r)
	}
	slices.SortFunc(out, func(a, b int) int { return cmp.Or(cmp.Compare(far[a], far[b]), cmp.Compare(a, b)) })
	return out
}

// standOf: pairs of who keeps and for whom, as the chapter tells them, of a walk.
func standOf(walk []int, n int, up []bool) [][2]int {
	var out [][2]int
	busy := map[int]bool{}
	for _, it := range walk[:n] {
		if up[it] {
			out = append(out, [2]int{it, it})
			continue
		}
		for _, s := range walk[n:] {
			if up[s] && !busy[s] {
				busy[s] = true
				out = append(out, [2]int{s, it})
				break
			}
		}
	}
	return out
}

// newRing: one that must be.
func newRing(t *testing.T, replicas, points int) *ring.Ring {
	t.Helper()
	r, e := ring.New(replicas, points)
	if r == nil || e != api.OK {
		t.Fatalf("New(%d, %d): error %d, or none", replicas, points, e)
	}
	return r
}

// edgeKeys: at each point of a replica count, just below it, and just above it; and at the circle's ends.
func edgeKeys(replicas, points int) []uint64 {
	out := []uint64{0, 1, 1<<63 - 1, 1 << 63, math.MaxUint64 - 1, math.MaxUint64}
	for r := range replicas {
		for p := range points {
			out = append(out, placeOf(r, p)-1, placeOf(r, p), placeOf(r, p)+1)
		}
	}
	return out
}

func walks(t *testing.T, what string, r *ring.Ring, key api.Blind, want []int) {
	t.Helper()
	if got := r.Walk(key); !slices.Equal(got, want) {
		t.Errorf("%s: Walk(%x) = %v, want %v", what, key, got, want)
	}
}

func prefers(t *testing.T, what string, r *ring.Ring, key api.Blind, n int, want []int, wantErr api.Errno) {
	t.Helper()
	if got, e := r.Prefer(key, n); !slices.Equal(got, want) || e != wantErr {
		t.Errorf("%s: Prefer(%x, %d) = %v, error %d, want %v, error %d", what, key, n, got, e, want, wantErr)
	}
}

func stands(t *testing.T, what string, r *ring.Ring, key api.Blind, n int, up []bool, want [][2]int, wantErr api.Errno) {
	t.Helper()
	if got, e := r.Stand(key, n, up); !slices.Equal(got, want) || e != wantErr {
		t.Errorf("%s: Stand(%x, %d, %v) = %v, error %d, want %v, error %d", what, key, n, up, got, e, want, wantErr)
	}
}

// P21.1: the chapter's example: of one replica: Walk of all keys: 0.
func TestExample(t *testing.T) {
	for _, points := range []int{1, 2, 64} {
		r := newRing(t, 1, points)
		for _, place := range edgeKeys(1, points) {
			walks(t, "one replica", r, keyAt(place, 0), []int{0})
			prefers(t, "one replica", r, keyAt(place, 9), 1, []int{0}, api.OK)
		}
	}
}

// P21.1: walks that were worked out elsewhere.
func TestWorkedOut(t *testing.T) {
	for _, c := range []struct {
		replicas, points int
		first            byte
		want             []int
	}{
		{2, 1, 0x00, []int{1, 0}},
		{2, 1, 0x40, []int{0, 1}},
		{2, 1, 0x80, []int{1, 0}},
		{3, 1, 0x00, []int{2, 1, 0}},
		{3, 1, 0x40, []int{0, 2, 1}},
		{3, 2, 0x40, []int{2, 0, 1}},
		{5, 8, 0x40, []int{1, 2, 4, 0, 3}},
		{5, 8, 0xff, []int{4, 2, 1, 3, 0}},
		{8, 1, 0x40, []int{4, 0, 6, 7, 5, 2, 1, 3}},
		{8, 64, 0x00, []int{7, 3, 4, 1, 2, 6, 0, 5}},
		{8, 64, 0xff, []int{5, 1, 7, 3, 4, 2, 6, 0}},
	} {
		walks(t, "worked out", newRing(t, c.replicas, c.points), api.Blind{c.first}, c.want)
	}
}

// P21.1: which rings there are: 1 to 8 replicas, of 1 to 64 points.
func TestNewBounds(t *testing.T) {
	for replicas := 1; replicas <= mostReplicas; replicas++ {
		for points := 1; points <= mostPoints; points++ {
			if got := newRing(t, replicas, points).Walk(api.Blind{7}); len(got) != replicas {
				t.Errorf("New(%d, %d) walks over %v", replicas, points, got)
			}
		}
	}
	wrong := []int{math.MinInt, math.MinInt32, -256, -64, -8, -1, 0, 1 << 32, 1<<32 + 1, math.MaxInt}
	for _, bad := range append(wrong, mostReplicas+1, 257) {
		noRing(t, bad, 1)
		noRing(t, bad, mostPoints)
		noRing(t, bad, 0)
	}
	for _, bad := range append(wrong, mostPoints+1, 257, 320) {
		noRing(t, 1, bad)
		noRing(t, mostReplicas, bad)
	}
}

func noRing(t *testing.T, replicas, points int) {
	t.Helper()
	if r, e := ring.New(replicas, points); r != nil || e != api.ErrArg {
		t.Errorf("New(%d, %d): error %d, or a ring, want none, ErrArg", replicas, points, e)
	}
}

// P21.1: which of one place is the first is never seen: no two points that a ring can have stand at one place.
func TestPlacesApart(t *testing.T) {
	seen := map[uint64]bool{}
	for r := range mostReplicas {
		for p := range mostPoints {
			seen[placeOf(r, p)] = true
		}
	}
	if len(seen) != mostReplicas*mostPoints {
		t.Errorf("%d places, want %d: try which of one place is the first", len(seen), mostReplicas*mostPoints)
	}
}

// P21.1: Walk, of keys at each point, just below and just above it, and at the ends, in rings of all counts of replicas.
func TestWalkEdges(t *testing.T) {
	for replicas := 1; replicas <= mostReplicas; replicas++ {
		for _, points := range []int{1, 2, 3, 7, 64} {
			r := newRing(t, replicas, points)
			for _, place := range edgeKeys(replicas, min(points, 8)) {
				walks(t, "edge", r, keyAt(place, 0), walkOf(replicas, points, place))
			}
		}
	}
}

// P21.1: Walk, of drawn keys: it hangs on a key's first eight bytes alone.
func TestWalkDrawn(t *testing.T) {
	rng := rand.New(rand.NewPCG(1, 21))
	for replicas := 1; replicas <= mostReplicas; replicas++ {
		for _, points := range []int{1, 5, 16, 63} {
			r := newRing(t, replicas, points)
			for range 50 {
				place := rng.Uint64()
				want := walkOf(replicas, points, place)
				for _, other := range []byte{0, 1, 255, byte(rng.Uint32())} {
					walks(t, "drawn", r, keyAt(place, other), want)
				}
			}
		}
	}
}

// P21.1: each of a key's first eight bytes is looked at, and the highest one first.
func TestPlaceBytes(t *testing.T) {
	r := newRing(t, mostReplicas, 1)
	for replica := range mostReplicas {
		place := placeOf(replica, 0)
		for i := range 8 {
			up := place + 1<<(8*i)
			walks(t, "at the point", r, keyAt(place, 0), walkOf(mostReplicas, 1, place))
			walks(t, "above it", r, keyAt(up, 255), walkOf(mostReplicas, 1, up))
			if up > place && r.Walk(keyAt(up, 255))[0] == replica {
				t.Errorf("replica %d is the first of a key above its point", replica)
			}
		}
	}
}

// P21.1: Prefer: the first n of Walk; ErrArg of n that isn't 1 to the count of replicas.
func TestPrefer(t *testing.T) {
	rng := rand.New(rand.NewPCG(2, 21))
	for replicas := 1; replicas <= mostReplicas; replicas++ {
		r := newRing(t, replicas, 9)
		for range 30 {
			place := rng.Uint64()
			walk := walkOf(replicas, 9, place)
			for n := 1; n <= replicas; n++ {
				prefers(t, "drawn", r, keyAt(place, 3), n, walk[:n], api.OK)
			}
		}
		for _, n := range badCounts(replicas) {
			prefers(t, "no such count", r, api.Blind{9}, n, nil, api.ErrArg)
		}
	}
}

// badCounts: none of them is 1 to most.
func badCounts(most int) []int {
	return []int{math.MinInt, math.MinInt32, -most, -1, 0, most + 1, most + 2, 1 << 32, 1<<32 + 1, math.MaxInt}
}

// ups: all that may be up, of so many replicas.
func ups(replicas int) [][]bool {
	var out [][]bool
	for mask := range 1 << replicas {
		up := make([]bool, replicas)
		for i := range up {
			up[i] = mask>>i&1 == 1
		}
		out = append(out, up)
	}
	return out
}

// P21.1: Stand: of all n, whoever is up.
func TestStand(t *testing.T) {
	rng := rand.New(rand.NewPCG(3, 21))
	for replicas := 1; replicas <= mostReplicas; replicas++ {
		r := newRing(t, replicas, 11)
		for range 6 {
			place := rng.Uint64()
			walk := walkOf(replicas, 11, place)
			for n := 1; n <= replicas; n++ {
				for _, up := range ups(replicas) {
					stands(t, "all", r, keyAt(place, 4), n, up, standOf(walk, n, up), api.OK)
				}
			}
		}
	}
}

// P21.1: Stand by hand: nobody down; one down; two down, with two and with one that may stand in; nobody up.
func TestStandByHand(t *testing.T) {
	r, key := newRing(t, 5, 8), api.Blind{0x40} // its walk: 1, 2, 4, 0, 3
	walks(t, "by hand", r, key, []int{1, 2, 4, 0, 3})
	for _, c := range []struct {
		n    int
		down []int
		want [][2]int
	}{
		{3, nil, [][2]int{{1, 1}, {2, 2}, {4, 4}}},
		{3, []int{2}, [][2]int{{1, 1}, {0, 2}, {4, 4}}},
		{3, []int{0}, [][2]int{{1, 1}, {2, 2}, {4, 4}}},
		{3, []int{2, 0}, [][2]int{{1, 1}, {3, 2}, {4, 4}}},
		{3, []int{2, 0, 3}, [][2]int{{1, 1}, {4, 4}}},
		{3, []int{1, 4}, [][2]int{{0, 1}, {2, 2}, {3, 4}}},
		{3, []int{1, 4, 0}, [][2]int{{3, 1}, {2, 2}}},
		{3, []int{1, 2, 4}, [][2]int{{0, 1}, {3, 2}}},
		{1, []int{1, 2, 4}, [][2]int{{0, 1}}},
		{5, []int{1}, [][2]int{{2, 2}, {4, 4}, {0, 0}, {3, 3}}},
		{3, []int{0, 1, 2, 3, 4}, nil},
	} {
		up := []bool{true, true, true, true, true}
		for _, d := range c.down {
			up[d] = false
		}
		stands(t, "by hand", r, key, c.n, up, c.want, api.OK)
	}
}

// P21.1: ErrArg of n that isn't 1 to the count of replicas, and where up hasn't as many as there are replicas.
func TestStandErrors(t *testing.T) {
	for replicas := 1; replicas <= mostReplicas; replicas++ {
		r := newRing(t, replicas, 3)
		for _, up := range ups(replicas)[:2] {
			for _, n := range badCounts(replicas) {
				stands(t, "no such count", r, api.Blind{9}, n, up, nil, api.ErrArg)
			}
		}
		for length := range 20 {
			if length == replicas {
				continue
			}
			for n := 1; n <= replicas; n++ {
				stands(t, "another length", r, api.Blind{9}, n, make([]bool, length), nil, api.ErrArg)
			}
		}
		stands(t, "nil", r, api.Blind{9}, 1, nil, nil, api.ErrArg)
	}
}

// P21.1: a nil ring, and one that New didn't make: nothing, ErrArg.
func TestNoRing(t *testing.T) {
	for _, r := range []*ring.Ring{nil, {}} {
		for _, key := range []api.Blind{{}, {255}, keyAt(math.MaxUint64, 255)} {
			walks(t, "no ring", r, key, nil)
			for _, n := range []int{math.MinInt, -1, 0, 1, 2, 8, 9, math.MaxInt} {
				prefers(t, "no ring", r, key, n, nil, api.ErrArg)
				for _, up := range [][]bool{nil, {}, {true}, make([]bool, 8)} {
					stands(t, "no ring", r, key, n, up, nil, api.ErrArg)
				}
			}
		}
	}
}

// P21.2: without the last replica the others come in the same order, to each key.
func TestLastTakenAway(t *testing.T) {
	rng := rand.New(rand.NewPCG(4, 21))
	for replicas := 2; replicas <= mostReplicas; replicas++ {
		for _, points := range []int{1, 4, 64} {
			all, fewer := newRing(t, replicas, points), newRing(t, replicas-1, points)
			places := edgeKeys(replicas, min(points, 8))
			for range 100 {
				places = append(places, rng.Uint64())
			}
			for _, place := range places {
				want := slices.DeleteFunc(all.Walk(keyAt(place, 0)), func(r int) bool { return r == replicas-1 })
				walks(t, "without the last", fewer, keyAt(place, 0), want)
			}
		}
	}
}

// P21.3: what is handed in isn't changed, its spare room neither, nor kept.
func TestHandedIn(t *testing.T) {
	r := newRing(t, 5, 8)
	room := []bool{true, false, true, false, true, true, false, true}
	up, was := room[:5], slices.Clone(room)
	for n := range 7 {
		r.Stand(api.Blind{0x40}, n, up)
	}
	if !slices.Equal(room, was) {
		t.Error("a list that was handed in was changed")
	}
	got, _ := r.Stand(api.Blind{0x40}, 3, up)
	gotWas := slices.Clone(got)
	for i := range room {
		room[i] = !room[i]
	}
	again := standOf(walkOf(5, 8, 0x40<<56), 3, up)
	if !slices.Equal(got, gotWas) {
		t.Error("an answer changes with what was handed in")
	}
	stands(t, "another up", r, api.Blind{0x40}, 3, up, again, api.OK)
}

// P21.3: answers are new memory: what is done to one changes no ring, and no other answer.
func TestNewMemory(t *testing.T) {
	r, key := newRing(t, 5, 8), api.Blind{0x40}
	up := []bool{true, false, true, true, true}
	walk, prefer := r.Walk(key), first(r.Prefer(key, 3))
	stand := first(r.Stand(key, 3, up))
	for range 2 {
		changed(r.Walk(key), -7)
		changed(first(r.Prefer(key, 3)), -7)
		changed(first(r.Stand(key, 3, up)), [2]int{-7, -7})
	}
	if !slices.Equal(walk, []int{1, 2, 4, 0, 3}) || !slices.Equal(prefer, walk[:3]) {
		t.Error("two answers share memory")
	}
	if !slices.Equal(stand, [][2]int{{0, 1}, {2, 2}, {4, 4}}) || !slices.Equal(up, []bool{true, false, true, true, true}) {
		t.Error("Stand's answer shares memory")
	}
	changed(walk, -7)
	changed(stand, [2]int{-7, -7})
	walks(t, "behind a change of an answer", r, key, []int{1, 2, 4, 0, 3})
	prefers(t, "behind a change of an answer", r, key, 3, []int{1, 2, 4}, api.OK)
	stands(t, "behind a change of an answer", r, key, 3, up, [][2]int{{0, 1}, {2, 2}, {4, 4}}, api.OK)
}

func first[T any](x T, _ api.Errno) T { return x }

// changed: a list, and its spare room, are x from now on.
func changed[T any](l []T, x T) {
	l = l[:cap(l)]
	for i := range l {
		l[i] = x
	}
}

// Rule 5: who asks, or asks wrongly, changes nothing; two rings of the same counts answer the same.
func TestSameAnswers(t *testing.T) {
	r, other := newRing(t, 6, 10), newRing(t, 6, 10)
	for i := range 256 {
		key := api.Blind{byte(i), 31: byte(i)}
		r.Prefer(key, 7)
		r.Stand(key, 2, nil)
		r.Stand(key, 2, make([]bool, 6))
		walks(t, "asked before", r, key, other.Walk(key))
		walks(t, "asked again", r, key, r.Walk(key))
	}
}
