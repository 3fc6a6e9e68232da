package pull_test

import (
	"maps"
	"math"
	"math/rand/v2"
	"slices"
	"testing"

	"casket/api"
	"casket/merkle"
	"casket/pull"
)

const leaves = 256

// keyOf: a key that differs from others in its first byte, or in its last one.
func keyOf(first, last byte) api.Blind {
	var k api.Blind
	k[0], k[31] = first, last
	return k
}

func digestOf(first, last byte) [32]byte {
	var d [32]byte
	d[0], d[31] = first, last
	return d
}

// countOf: how many nodes a level has.
func countOf(level int) int { return []int{1, 4, 16, 64, 256}[level] }

// all: the nodes of a level, rising.
func all(level int) []int {
	var out []int
	for at := range countOf(level) {
		out = append(out, at)
	}
	return out
}

// content: a tree's keys with their digests, none of them noughts.
type content map[api.Blind][32]byte

func (c content) tree() *merkle.Tree {
	t := merkle.New()
	for k, d := range c {
		t.Set(k, d)
	}
	return t
}

// with: this, and a key more (or another digest of one; noughts: without it).
func (c content) with(k api.Blind, d [32]byte) content {
	out := content{}
	maps.Copy(out, c)
	out[k] = d
	if d == [32]byte{} {
		delete(out, k)
	}
	return out
}

// unlike: the leaves in which two have unlike keys or digests, rising.
func unlike(a, b content) []int {
	var out []int
	for _, l := range [][2]content{{a, b}, {b, a}} {
		for k, d := range l[0] {
			if l[1][k] != d {
				out = append(out, int(k[0]))
			}
		}
	}
	slices.Sort(out)
	return slices.Compact(out)
}

// toldOf: how many nodes are told till these leaves are found: the root, and the four of each unlike one above the leaves.
func toldOf(found []int) int {
	n := 1
	for _, size := range []int{256, 64, 16, 4} {
		last := -1
		for _, leaf := range found {
			if leaf/size != last {
				last = leaf / size
				n += 4
			}
		}
	}
	return n
}

// filled: a content with two keys in each leaf.
func filled() content {
	c := content{}
	for first := range leaves {
		c[keyOf(byte(first), 1)] = digestOf(byte(first), 1)
		c[keyOf(byte(first), 2)] = digestOf(1, byte(first))
	}
	return c
}

// drawn: a content of few keys, or of many, and one that is some steps away from it.
func drawn(rng *rand.Rand) (content, content) {
	a := content{}
	for range rng.IntN(300) {
		a[keyOf(byte(rng.IntN(leaves)), byte(rng.IntN(3)))] = digestOf(1, byte(rng.IntN(3)))
	}
	b := maps.Clone(a)
	for range rng.IntN(8) {
		b = b.with(keyOf(byte(rng.IntN(leaves)), byte(rng.IntN(3))), digestOf(byte(rng.IntN(2)), 0))
	}
	return a, b
}

// someNodes: of a level, in any order, some of them twice.
func someNodes(rng *rand.Rand, level int) []int {
	var out []int
	for range rng.IntN(20) {
		out = append(out, rng.IntN(countOf(level)))
	}
	return out
}

// nodesOf: what a tree itself tells of nodes, one by one.
func nodesOf(t *testing.T, tree *merkle.Tree, level int, at []int) [][32]byte {
	t.Helper()
	var out [][32]byte
	for _, n := range at {
		d, e := tree.Node(level, n)
		if e != api.OK {
			t.Fatalf("Node(%d, %d): error %d", level, n, e)
		}
		out = append(out, d)
	}
	return out
}

func tells(t *testing.T, what string, tree *merkle.Tree, level int, at []int, want [][32]byte, wantErr api.Errno) {
	t.Helper()
	if got, e := pull.Tell(tree, level, at); !slices.Equal(got, want) || e != wantErr {
		t.Errorf("%s: Tell(%d, %v): %d digests, error %d, want %d, error %d, or other ones", what, level, at, len(got), e, len(want), wantErr)
	}
}

func unlikes(t *testing.T, what string, tree *merkle.Tree, level int, at []int, other [][32]byte, want []int, wantErr api.Errno) {
	t.Helper()
	if got, e := pull.Unlike(tree, level, at, other); !slices.Equal(got, want) || e != wantErr {
		t.Errorf("%s: Unlike(%d, %v) = %v, error %d, want %v, error %d", what, level, at, got, e, want, wantErr)
	}
}

func finds(t *testing.T, what string, a, b *merkle.Tree, want []int, wantTold int, wantErr api.Errno) {
	t.Helper()
	if got, told, e := pull.Leaves(a, b); !slices.Equal(got, want) || told != wantTold || e != wantErr {
		t.Errorf("%s: Leaves = %v, %d, error %d, want %v, %d, error %d", what, got, told, e, want, wantTold, wantErr)
	}
}

// P20.1: the chapter's example: of two trees that are the same: none, 1.
func TestExample(t *testing.T) {
	one := content{keyOf(5, 1): digestOf(1, 1)}
	for _, c := range []content{{}, one, filled()} {
		finds(t, "the same", c.tree(), c.tree(), nil, 1, api.OK)
		tree := c.tree()
		finds(t, "one tree", tree, tree, nil, 1, api.OK)
	}
}

// P20.1: Tell: just these nodes of that level, in their order, also falling, and twice.
func TestTell(t *testing.T) {
	rng := rand.New(rand.NewPCG(1, 20))
	for _, c := range []content{{}, {keyOf(5, 1): digestOf(1, 1)}, filled()} {
		tree := c.tree()
		for level := range 5 {
			falling := all(level)
			slices.Reverse(falling)
			for _, at := range [][]int{nil, {}, {0}, {countOf(level) - 1}, all(level), falling, {0, 0, 0}, someNodes(rng, level)} {
				tells(t, "nodes", tree, level, at, nodesOf(t, tree, level, at), api.OK)
			}
		}
	}
}

// badNodes: levels with lists of nodes of which one isn't, be it the first, the last, or one between.
func badNodes() map[int][][]int {
	out := map[int][][]int{}
	for level := range 5 {
		for _, bad := range []int{math.MinInt, -1, countOf(level), 4 * countOf(level), 1 << 32, math.MaxInt} {
			out[level] = append(out[level], []int{bad}, []int{bad, 0, 0}, []int{0, bad, 0}, []int{0, 0, bad})
		}
	}
	for _, level := range []int{math.MinInt, -1, 5, 6, 32, 63, 64, math.MaxInt} {
		out[level] = [][]int{{0}, {0, 0}, {1}, {-1}}
	}
	return out
}

// P20.1: ErrArg of nodes that aren't, and of a nil tree, which has none: then nothing else is told.
func TestNoSuchNode(t *testing.T) {
	for level, lists := range badNodes() {
		for _, at := range lists {
			for _, tree := range []*merkle.Tree{nil, merkle.New(), filled().tree()} {
				tells(t, "no such node", tree, level, at, nil, api.ErrArg)
				unlikes(t, "no such node", tree, level, at, make([][32]byte, len(at)), nil, api.ErrArg)
			}
		}
	}
	for level := range 5 {
		tells(t, "nil", nil, level, []int{0}, nil, api.ErrArg)
		unlikes(t, "nil", nil, level, []int{0}, make([][32]byte, 1), nil, api.ErrArg)
	}
}

// P20.1: of no nodes none is one that isn't: nothing is told, and nothing unlike, of whatever level and tree.
func TestNoNodes(t *testing.T) {
	for _, tree := range []*merkle.Tree{nil, merkle.New(), filled().tree()} {
		for _, level := range []int{math.MinInt, -1, 0, 4, 5, math.MaxInt} {
			tells(t, "no nodes", tree, level, nil, nil, api.OK)
			unlikes(t, "no nodes", tree, level, nil, nil, nil, api.OK)
			unlikes(t, "no nodes", tree, level, []int{}, [][32]byte{}, nil, api.OK)
		}
	}
}

// P20.1: ErrArg of lists that aren't of one length, be it the one or the other that is longer.
func TestUnlikeLengths(t *testing.T) {
	tree := filled().tree()
	for level := range 5 {
		at := []int{0, 0, 0}
		other := nodesOf(t, tree, level, at)
		for n := range 3 {
			unlikes(t, "fewer nodes", tree, level, at[:n], other, nil, api.ErrArg)
			unlikes(t, "fewer digests", tree, level, at, other[:n], nil, api.ErrArg)
			unlikes(t, "fewer unlike digests", tree, level, at, make([][32]byte, n), nil, api.ErrArg)
			unlikes(t, "of a nil tree", nil, level, at, other[:n], nil, api.ErrArg)
		}
	}
	unlikes(t, "no nodes of no level", tree, 9, nil, make([][32]byte, 1), nil, api.ErrArg)
}

// P20.1: Unlike of each single node: the four below it, and of a leaf itself; of one that is the same nothing.
func TestUnlikeEach(t *testing.T) {
	tree := filled().tree()
	for level := range 5 {
		for at := range countOf(level) {
			want := []int{4 * at, 4*at + 1, 4*at + 2, 4*at + 3}
			if level == 4 {
				want = []int{at}
			}
			own := nodesOf(t, tree, level, []int{at})
			unlikes(t, "the same", tree, level, []int{at}, own, nil, api.OK)
			for _, place := range []int{0, 15, 31} {
				other := slices.Clone(own)
				other[0][place] ^= 1
				unlikes(t, "one byte", tree, level, []int{at}, other, want, api.OK)
			}
			unlikes(t, "noughts", tree, level, []int{at}, make([][32]byte, 1), want, api.OK)
			unlikes(t, "of none", merkle.New(), level, []int{at}, own, want, api.OK)
		}
	}
}

// P20.1: Unlike of several nodes: by the digests at their places, in their order, one that stands there twice twice.
func TestUnlikeOrder(t *testing.T) {
	tree := filled().tree()
	at := []int{9, 3, 9, 12, 0, 3}
	other := nodesOf(t, tree, 2, at)
	unlikes(t, "the same", tree, 2, at, other, nil, api.OK)
	other[0][0]++
	other[3][31]++
	other[5][7]++
	unlikes(t, "three", tree, 2, at, other, []int{36, 37, 38, 39, 48, 49, 50, 51, 12, 13, 14, 15}, api.OK)
	unlikes(t, "all", tree, 2, at[:3], make([][32]byte, 3), []int{36, 37, 38, 39, 12, 13, 14, 15, 36, 37, 38, 39}, api.OK)
	leavesAt := []int{200, 7, 200, 8}
	own := nodesOf(t, tree, 4, leavesAt)
	turned := [][32]byte{own[0], own[3], own[2], own[1]}
	unlikes(t, "leaves, turned", tree, 4, leavesAt, turned, []int{7, 8}, api.OK)
	unlikes(t, "leaves, all", tree, 4, leavesAt, make([][32]byte, 4), leavesAt, api.OK)
}

// P20.1: Tell and Unlike, of drawn trees and nodes of all levels.
func TestDrawnNodes(t *testing.T) {
	for seed := range uint64(60) {
		rng := rand.New(rand.NewPCG(seed, 201))
		c, d := drawn(rng)
		a, b := c.tree(), d.tree()
		for level := range 5 {
			at := someNodes(rng, level)
			own, other := nodesOf(t, a, level, at), nodesOf(t, b, level, at)
			var want []int
			for i, n := range at {
				switch {
				case own[i] == other[i]:
				case level == 4:
					want = append(want, n)
				default:
					want = append(want, 4*n, 4*n+1, 4*n+2, 4*n+3)
				}
			}
			tells(t, "drawn", b, level, at, other, api.OK)
			unlikes(t, "drawn", a, level, at, other, want, api.OK)
		}
	}
}

// P20.1: Leaves: ErrArg of a nil tree, whichever it is.
func TestLeavesNil(t *testing.T) {
	for _, tree := range []*merkle.Tree{merkle.New(), filled().tree(), nil} {
		finds(t, "the first one nil", nil, tree, nil, 0, api.ErrArg)
		finds(t, "the second one nil", tree, nil, nil, 0, api.ErrArg)
	}
}

// P20.1, P20.2: a single leaf that is unlike is found, each of them, by seventeen nodes: a key more, a key less, another digest.
func TestEachLeaf(t *testing.T) {
	for first := range leaves {
		some := content{keyOf(byte(first), 1): digestOf(1, 1), keyOf(byte(first+1), 1): digestOf(1, 1), keyOf(byte(first+99), 1): digestOf(1, 1)}
		tree := some.tree()
		for _, other := range []content{
			some.with(keyOf(byte(first), 0), digestOf(0, 1)),
			some.with(keyOf(byte(first), 1), [32]byte{}),
			some.with(keyOf(byte(first), 1), digestOf(9, 9)),
		} {
			finds(t, "to it", tree, other.tree(), []int{first}, 17, api.OK)
			finds(t, "from it", other.tree(), tree, []int{first}, 17, api.OK)
		}
		one := content{keyOf(byte(first), 1): digestOf(1, 1)}
		finds(t, "to none", one.tree(), merkle.New(), []int{first}, 17, api.OK)
		finds(t, "from none", merkle.New(), one.tree(), []int{first}, 17, api.OK)
	}
}

// P20.1, P20.2: leaves that are unlike, near each other and apart: which, rising, and by how many nodes.
func TestSomeLeaves(t *testing.T) {
	for _, c := range []struct {
		unlike []int
		told   int
	}{
		{[]int{0, 1}, 17},
		{[]int{0, 3}, 17},
		{[]int{3, 4}, 21},
		{[]int{15, 16}, 25},
		{[]int{63, 64}, 29},
		{[]int{0, 255}, 29},
		{[]int{0, 64, 128, 192}, 53},
		{[]int{0, 1, 2, 3, 4, 5, 6, 7, 8, 9, 10, 11, 12, 13, 14, 15}, 29},
		{all(4), 341},
	} {
		other := filled()
		for _, leaf := range slices.Backward(c.unlike) {
			other = other.with(keyOf(byte(leaf), 3), digestOf(4, 5))
		}
		finds(t, "some leaves", filled().tree(), other.tree(), c.unlike, c.told, api.OK)
		finds(t, "some leaves, turned", other.tree(), filled().tree(), c.unlike, c.told, api.OK)
	}
}

// P20.1, P20.2: of drawn trees just the leaves are told in which they have unlike keys or digests.
func TestDrawnLeaves(t *testing.T) {
	for seed := range uint64(200) {
		rng := rand.New(rand.NewPCG(seed, 202))
		a, b := drawn(rng)
		if seed%3 == 0 {
			b, _ = drawn(rng)
		}
		want := unlike(a, b)
		finds(t, "drawn", a.tree(), b.tree(), want, toldOf(want), api.OK)
		finds(t, "drawn, turned", b.tree(), a.tree(), want, toldOf(want), api.OK)
	}
}

// P20.1: a, asking Unlike, and b, asking Tell, find level by level what Leaves finds.
func TestLeavesByHand(t *testing.T) {
	for seed := range uint64(30) {
		rng := rand.New(rand.NewPCG(seed, 203))
		c, d := drawn(rng)
		a, b := c.tree(), d.tree()
		at, told := []int{0}, 0
		for level := range 5 {
			digests, e := pull.Tell(b, level, at)
			if e != api.OK {
				t.Fatalf("Tell: error %d", e)
			}
			told += len(at)
			if at, e = pull.Unlike(a, level, at, digests); e != api.OK {
				t.Fatalf("Unlike: error %d", e)
			}
		}
		finds(t, "by hand", a, b, at, told, api.OK)
	}
}

// P20.3: what is handed in isn't changed, its spare room neither, and the trees are as they were.
func TestHandedIn(t *testing.T) {
	c := filled()
	tree, other := c.tree(), c.with(keyOf(5, 5), digestOf(5, 5)).tree()
	was, otherWas := nodesOf(t, tree, 4, all(4)), nodesOf(t, other, 4, all(4))
	for level := range 5 {
		room := append(all(level), -7, -7, -7, -7, -7)
		at := room[:countOf(level)]
		digestRoom := append(nodesOf(t, other, level, at), digestOf(7, 7), digestOf(7, 7))
		digests := digestRoom[:len(at)]
		roomWas, digestRoomWas := slices.Clone(room), slices.Clone(digestRoom)
		pull.Tell(tree, level, at)
		pull.Unlike(tree, level, at, digests)
		pull.Unlike(tree, level, at, make([][32]byte, len(at)))
		if !slices.Equal(room, roomWas) || !slices.Equal(digestRoom, digestRoomWas) {
			t.Errorf("level %d: a list that was handed in was changed", level)
		}
	}
	pull.Leaves(tree, other)
	if !slices.Equal(nodesOf(t, tree, 4, all(4)), was) || !slices.Equal(nodesOf(t, other, 4, all(4)), otherWas) {
		t.Error("a tree was changed")
	}
}

// P20.3: answers are new memory: what is done to one changes no argument, and no other answer.
func TestNewMemory(t *testing.T) {
	tree, empty := filled().tree(), merkle.New()
	for level := range 5 {
		at := all(level)
		atWas := slices.Clone(at)
		digests, _ := pull.Tell(tree, level, at)
		digestsWas := slices.Clone(digests)
		again, _ := pull.Tell(tree, level, at)
		changed(again, digestOf(6, 6))
		one, _ := pull.Unlike(empty, level, at, digests)
		oneWas := slices.Clone(one)
		other, _ := pull.Unlike(empty, level, at, digests)
		changed(other, -6)
		if !slices.Equal(at, atWas) || !slices.Equal(digests, digestsWas) || !slices.Equal(one, oneWas) {
			t.Errorf("level %d: an answer shares memory", level)
		}
	}
	one, _, _ := pull.Leaves(tree, empty)
	other, _, _ := pull.Leaves(tree, empty)
	changed(other, -6)
	if !slices.Equal(one, all(4)) {
		t.Error("two answers of Leaves share memory")
	}
	finds(t, "behind a change of an answer", tree, empty, all(4), 341, api.OK)
}

// changed: a list, and its spare room, are x from now on.
func changed[T any](l []T, x T) {
	l = l[:cap(l)]
	for i := range l {
		l[i] = x
	}
}

// P20.3: what is handed in isn't kept: an answer doesn't change with it.
func TestNotKept(t *testing.T) {
	tree := filled().tree()
	for level := range 5 {
		at := all(level)
		digests, _ := pull.Tell(tree, level, at)
		want := slices.Clone(digests)
		noughts := make([][32]byte, len(at))
		found, _ := pull.Unlike(tree, level, at, noughts)
		foundWas := slices.Clone(found)
		changed(at, -6)
		changed(noughts, digestOf(6, 6))
		tree.Set(keyOf(byte(level), 9), digestOf(9, 9))
		if !slices.Equal(digests, want) || !slices.Equal(found, foundWas) {
			t.Errorf("level %d: an answer changes with what was handed in", level)
		}
	}
}
