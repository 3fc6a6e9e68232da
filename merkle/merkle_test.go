package merkle_test

import (
	"cmp"
	"crypto/sha256"
	"encoding/hex"
	"maps"
	"math"
	"math/rand/v2"
	"slices"
	"testing"

	"casket/api"
	"casket/merkle"
)

const leaves = 256

// threeKeysRoot: of a tree of three keys, worked out elsewhere.
const threeKeysRoot = "9b0377b58f6ac3e5d18b6e3a3a7175a8758a1c86e57574cefb279d4ff71cfade"

var noughts [32]byte

// keyOf: a key that differs from others in its first byte, or in its last one.
func keyOf(first, last byte) api.Blind {
	var k api.Blind
	k[0], k[31] = first, last
	return k
}

// digestOf: one that differs from others in its first byte, or in its last one.
func digestOf(first, last byte) [32]byte {
	var d [32]byte
	d[0], d[31] = first, last
	return d
}

// countOf: how many nodes a level has.
func countOf(level int) int { return []int{1, 4, 16, 64, 256}[level] }

// model: a tree's keys with their digests, none of them noughts.
type model map[api.Blind][32]byte

func (m model) set(k api.Blind, d [32]byte) {
	m[k] = d
	if d == noughts {
		delete(m, k)
	}
}

// keys: those of a leaf, rising.
func (m model) keys(leaf int) []api.Blind {
	var out []api.Blind
	for k := range m {
		if int(k[0]) == leaf {
			out = append(out, k)
		}
	}
	slices.SortFunc(out, func(a, b api.Blind) int { return cmp.Compare(string(a[:]), string(b[:])) })
	return out
}

// levels: the digests of all nodes, from the leaves up, as the chapter tells them.
func (m model) levels() [5][][32]byte {
	var out [5][][32]byte
	for leaf := range leaves {
		var b []byte
		for _, k := range m.keys(leaf) {
			d := m[k]
			b = append(append(b, k[:]...), d[:]...)
		}
		out[4] = append(out[4], sumOf(b))
	}
	for level := 3; level >= 0; level-- {
		for at := range countOf(level) {
			out[level] = append(out[level], sumOfFour(out[level+1][4*at:4*at+4]))
		}
	}
	return out
}

func sumOf(b []byte) [32]byte {
	if len(b) == 0 {
		return noughts
	}
	return sha256.Sum256(b)
}

func sumOfFour(l [][32]byte) [32]byte {
	var b []byte
	none := true
	for _, d := range l {
		none = none && d == noughts
		b = append(b, d[:]...)
	}
	if none {
		return noughts
	}
	return sha256.Sum256(b)
}

// levelsOf: what a tree tells of all its nodes.
func levelsOf(t *testing.T, what string, tree *merkle.Tree) [5][][32]byte {
	t.Helper()
	var out [5][][32]byte
	for level := range out {
		for at := range countOf(level) {
			d, e := tree.Node(level, at)
			if e != api.OK {
				t.Fatalf("%s: Node(%d, %d): error %d", what, level, at, e)
			}
			out[level] = append(out[level], d)
		}
	}
	return out
}

// same: a tree tells of all nodes, leaves and keys what the model tells.
func (m model) same(t *testing.T, what string, tree *merkle.Tree) {
	t.Helper()
	want, got := m.levels(), levelsOf(t, what, tree)
	for level := range want {
		for at := range want[level] {
			if got[level][at] != want[level][at] {
				t.Fatalf("%s: Node(%d, %d) = %x, want %x", what, level, at, got[level][at], want[level][at])
			}
		}
	}
	if got := tree.Root(); got != want[0][0] {
		t.Fatalf("%s: Root = %x, want %x", what, got, want[0][0])
	}
	for leaf := range leaves {
		if got, want := tree.Keys(leaf), m.keys(leaf); !slices.Equal(got, want) {
			t.Fatalf("%s: Keys(%d) = %x, want %x", what, leaf, got, want)
		}
	}
	for k, d := range m {
		other := k
		other[15]++
		if got := tree.Get(k); got != d || tree.Get(other) != m[other] {
			t.Fatalf("%s: Get(%x) = %x, want %x, or another key's is", what, k, got, d)
		}
	}
}

// treeOf: a tree of the model's keys, in any order.
func treeOf(m model) *merkle.Tree {
	t := merkle.New()
	for k, d := range m {
		t.Set(k, d)
	}
	return t
}

// someKeys: of the edges of leaves and of nodes, several of a leaf, and some that differ in one byte alone.
func someKeys() []api.Blind {
	out := []api.Blind{{}, {0, 1}, {0, 255}, {7, 0x7f}, {7, 0x80}, {7, 15: 1}, {7, 15: 2}}
	for _, first := range []byte{0, 3, 4, 15, 16, 63, 64, 127, 128, 191, 192, 254, 255} {
		for _, last := range []byte{1, 127, 128, 255} {
			out = append(out, keyOf(first, last))
		}
	}
	return out
}

// P19.1: the chapter's example: of a new tree all digests are noughts.
func TestExample(t *testing.T) {
	tree := merkle.New()
	if tree == nil {
		t.Fatal("New: none")
	}
	model{}.same(t, "new", tree)
	for _, k := range someKeys() {
		if tree.Get(k) != noughts {
			t.Errorf("Get(%x) of a new tree: not noughts", k)
		}
	}
}

// P19.1: digests that were worked out elsewhere: of one key, and of three keys in two leaves.
func TestWorkedOut(t *testing.T) {
	tree := merkle.New()
	tree.Set(keyOf(0xab, 1), digestOf(1, 0))
	for level, want := range []string{
		"bd40bb4fb9c13ac643c5e12a790f5ad04d66045331f9833ca3d99807eda0ae6d",
		"d632bf58364ba5ad115cc89dfaf097fbec8dc1f1308f3649a567645a65424996",
		"897ccf2073bb96ddb406dfbad76466231e18ef1bfa88cb9ab3df4efac56333e6",
		"e9d1cc1ddd40b0c429e486a554b62a9d814bc0c301bfeaeb3e97b70059fc343f",
		"1a438dfc367a15801e7edf3b24b6f1d3e4aa42229c30c60850c7b4e7ca106dc6",
	} {
		at := []int{0, 2, 10, 42, 171}[level]
		if d, e := tree.Node(level, at); hex.EncodeToString(d[:]) != want || e != api.OK {
			t.Errorf("Node(%d, %d) = %x, error %d, want %s", level, at, d, e, want)
		}
	}
	tree.Set(keyOf(0xab, 0), digestOf(0, 2))
	tree.Set(keyOf(0x01, 9), digestOf(3, 3))
	if d := tree.Root(); hex.EncodeToString(d[:]) != threeKeysRoot {
		t.Errorf("Root of three keys = %x, want %s", d, threeKeysRoot)
	}
}

// P19.1: a key's leaf is its first byte, whatever stands behind it.
func TestLeaf(t *testing.T) {
	for first := range leaves {
		for _, k := range []api.Blind{keyOf(byte(first), 0), keyOf(byte(first), 255), {byte(first), 255, 3: 9}} {
			if got := merkle.Leaf(k); got != first {
				t.Errorf("Leaf(%x) = %d, want %d", k, got, first)
			}
		}
	}
}

// P19.1: a key is set, set again, taken away by noughts, taken away where it isn't, and set once more.
func TestSet(t *testing.T) {
	for _, k := range someKeys() {
		tree, m := merkle.New(), model{}
		tree.Set(k, noughts)
		m.same(t, "noughts of a new tree", tree)
		for _, d := range [][32]byte{digestOf(1, 0), digestOf(0, 1), {15: 1}, digestOf(0, 1), noughts, noughts, digestOf(255, 255)} {
			tree.Set(k, d)
			m.set(k, d)
			m.same(t, "a key", tree)
		}
	}
}

// P19.1: noughts take just the key away that they are set of: beside others of its leaf, and of other leaves.
func TestTakenAway(t *testing.T) {
	m := model{}
	for i, k := range someKeys() {
		m.set(k, digestOf(byte(i), 1))
	}
	tree := treeOf(m)
	m.same(t, "all", tree)
	for _, k := range someKeys() {
		tree.Set(k, noughts)
		m.set(k, noughts)
		m.same(t, "one less", tree)
	}
	model{}.same(t, "none left", tree)
}

// P19.1: a key's digest goes into that of its leaf, and of the nodes above it, one of each level, and into no other one.
func TestOnePath(t *testing.T) {
	full := model{}
	for first := range leaves {
		full.set(keyOf(byte(first), 1), digestOf(1, byte(first)))
	}
	for first := range leaves {
		tree := treeOf(full)
		was := levelsOf(t, "ahead", tree)
		tree.Set(keyOf(byte(first), 1), digestOf(2, 2))
		is := levelsOf(t, "behind", tree)
		for level := range is {
			above := first / []int{256, 64, 16, 4, 1}[level]
			for at := range is[level] {
				if (is[level][at] != was[level][at]) != (at == above) {
					t.Fatalf("leaf %d: Node(%d, %d) is another one, or should be", first, level, at)
				}
			}
		}
	}
}

// P19.1: which nodes there are, and which not: of those that aren't noughts and ErrArg.
func TestNodeBounds(t *testing.T) {
	m := model{}
	for first := range leaves {
		m.set(keyOf(byte(first), 1), digestOf(1, 1))
	}
	for _, tree := range []*merkle.Tree{merkle.New(), treeOf(m)} {
		for level := range 5 {
			for _, at := range []int{math.MinInt, math.MinInt32, -256, -1, countOf(level), countOf(level) + 1, 1 << 32, math.MaxInt} {
				noNode(t, tree, level, at)
			}
		}
		for _, level := range []int{math.MinInt, -64, -32, -2, -1, 5, 6, 31, 32, 33, 63, 64, 128, 1 << 32, math.MaxInt} {
			for _, at := range []int{math.MinInt, -1, 0, 1, 255, 256, 1023, math.MaxInt} {
				noNode(t, tree, level, at)
			}
		}
	}
}

func noNode(t *testing.T, tree *merkle.Tree, level, at int) {
	t.Helper()
	if d, e := tree.Node(level, at); d != noughts || e != api.ErrArg {
		t.Errorf("Node(%d, %d) = %x, error %d, want noughts, ErrArg", level, at, d, e)
	}
}

// P19.1: of no such leaf there are no keys.
func TestNoSuchLeaf(t *testing.T) {
	m := model{}
	for first := range leaves {
		m.set(keyOf(byte(first), 1), digestOf(1, 1))
	}
	for _, tree := range []*merkle.Tree{merkle.New(), treeOf(m)} {
		for _, leaf := range []int{math.MinInt, -256, -1, 256, 257, 512, 1 << 32, math.MaxInt} {
			if got := tree.Keys(leaf); len(got) != 0 {
				t.Errorf("Keys(%d) = %x, want none", leaf, got)
			}
		}
	}
}

// P19.1: many keys in a leaf, that differ in any one of their bytes.
func TestManyInALeaf(t *testing.T) {
	m := model{}
	for i := 1; i < 32; i++ {
		for _, x := range []byte{1, 2, 127, 128, 129, 255} {
			k := keyOf(99, 0)
			k[i] = x
			m.set(k, digestOf(byte(i), x))
		}
	}
	tree := treeOf(m)
	m.same(t, "many", tree)
	if n := len(tree.Keys(99)); n != 31*6 {
		t.Errorf("%d keys, want %d", n, 31*6)
	}
}

// P19.1: all calls, drawn: of keys of few leaves, and of all.
func TestDrawn(t *testing.T) {
	for seed := range uint64(40) {
		rng := rand.New(rand.NewPCG(seed, 19))
		few := 1 + rng.IntN(leaves)
		tree, m := merkle.New(), model{}
		for range 200 {
			k := keyOf(byte(rng.IntN(few)), byte(rng.IntN(6)))
			d := digestOf(byte(rng.IntN(2)), byte(rng.IntN(3)))
			tree.Set(k, d)
			m.set(k, d)
			if rng.IntN(25) == 0 {
				m.same(t, "drawn", tree)
			}
		}
		m.same(t, "drawn, in the end", tree)
	}
}

// orders: all orders of n things.
func orders(n int) [][]int {
	if n == 0 {
		return [][]int{nil}
	}
	var out [][]int
	for _, l := range orders(n - 1) {
		for i := range n {
			out = append(out, slices.Insert(slices.Clone(l), i, n-1))
		}
	}
	return out
}

// P19.2: the same keys with the same digests, in all orders: the same digests and keys.
func TestAllOrders(t *testing.T) {
	keys := []api.Blind{keyOf(5, 1), keyOf(5, 2), keyOf(5, 3), keyOf(6, 0), keyOf(200, 0)}
	m := model{}
	for i, k := range keys {
		m.set(k, digestOf(byte(i), 7))
	}
	for _, order := range orders(len(keys)) {
		tree := merkle.New()
		for _, i := range order {
			tree.Set(keys[i], m[keys[i]])
		}
		m.same(t, "an order", tree)
	}
}

// P19.2: nor do the ways there matter: other digests ahead, keys that came and went, the same set twice.
func TestDetours(t *testing.T) {
	m := model{}
	for i, k := range someKeys() {
		m.set(k, digestOf(byte(i), 7))
	}
	for seed := range uint64(20) {
		rng := rand.New(rand.NewPCG(seed, 192))
		tree := merkle.New()
		for range 300 {
			tree.Set(keyOf(byte(rng.IntN(leaves)), byte(rng.IntN(3))), digestOf(byte(rng.IntN(3)), byte(rng.IntN(3))))
		}
		for leaf := range leaves {
			for _, k := range tree.Keys(leaf) {
				if _, is := m[k]; !is {
					tree.Set(k, noughts)
				}
			}
		}
		for _, i := range rng.Perm(len(someKeys())) {
			k := someKeys()[i]
			tree.Set(k, m[k])
			if rng.IntN(3) == 0 {
				tree.Set(k, m[k])
			}
		}
		m.same(t, "a detour", tree)
	}
}

// P19.2: unlike keys, or unlike digests, have unlike digests of their leaves and of all above (of those that are tried here).
func TestUnlike(t *testing.T) {
	seen := map[[32]byte]bool{}
	for _, m := range []model{
		{},
		{keyOf(5, 1): digestOf(1, 1)},
		{keyOf(5, 2): digestOf(1, 1)},
		{keyOf(6, 1): digestOf(1, 1)},
		{keyOf(5, 1): digestOf(1, 2)},
		{keyOf(5, 1): digestOf(2, 1)},
		{keyOf(5, 1): digestOf(1, 1), keyOf(5, 2): digestOf(1, 2)},
		{keyOf(5, 1): digestOf(1, 2), keyOf(5, 2): digestOf(1, 1)},
		{keyOf(5, 1): digestOf(1, 1), keyOf(6, 1): digestOf(1, 1)},
		{keyOf(9, 1): digestOf(1, 1)},
		{keyOf(21, 1): digestOf(1, 1)},
		{keyOf(69, 1): digestOf(1, 1)},
		{keyOf(133, 1): digestOf(1, 1)},
	} {
		d := treeOf(m).Root()
		if seen[d] {
			t.Errorf("the root of %x is another one's, too", m)
		}
		seen[d] = true
	}
}

// P19.3: Keys is new memory: what is done to one changes no tree, and no other answer, its spare room neither.
func TestNewMemory(t *testing.T) {
	m := model{keyOf(5, 1): digestOf(1, 1), keyOf(5, 2): digestOf(1, 2), keyOf(5, 3): digestOf(1, 3)}
	tree := treeOf(m)
	one, other := tree.Keys(5), tree.Keys(5)
	want := slices.Clone(one)
	for i := range one {
		one[i] = keyOf(77, 77)
	}
	for l := one[:cap(one)]; len(l) > 0; l = l[1:] {
		l[0] = keyOf(78, 78)
	}
	if !slices.Equal(other, want) {
		t.Error("two answers share memory")
	}
	m.same(t, "behind a change of an answer", tree)
	tree.Set(keyOf(5, 2), noughts)
	tree.Set(keyOf(5, 0), digestOf(1, 1))
	if !slices.Equal(other, want) {
		t.Error("an answer changes with its tree")
	}
}

// P19.1: who asks changes nothing: the same answers, twice, in any order of asking.
func TestAsking(t *testing.T) {
	m := model{}
	for i, k := range someKeys() {
		m.set(k, digestOf(byte(i), 7))
	}
	tree := treeOf(m)
	for range 3 {
		for _, leaf := range []int{-1, 0, 7, 8, 255, 256} {
			tree.Keys(leaf)
		}
		tree.Get(keyOf(33, 33))
		tree.Node(5, 0)
		tree.Node(4, 256)
		m.same(t, "asked", tree)
	}
}

// P19.1: two trees have nothing of each other.
func TestApart(t *testing.T) {
	a, b := merkle.New(), merkle.New()
	ma, mb := model{}, model{}
	for i, k := range someKeys() {
		a.Set(k, digestOf(byte(i), 1))
		ma.set(k, digestOf(byte(i), 1))
		if i%3 == 0 {
			b.Set(k, digestOf(byte(i), 2))
			mb.set(k, digestOf(byte(i), 2))
		}
	}
	ma.same(t, "one", a)
	mb.same(t, "the other one", b)
	was := maps.Clone(mb)
	for _, k := range someKeys() {
		a.Set(k, noughts)
	}
	was.same(t, "the other one, behind", b)
	model{}.same(t, "one, behind", a)
}

// P1, P19.1: a nil tree: nothing, ErrArg; at all arguments nothing panics.
func TestNil(t *testing.T) {
	var tree *merkle.Tree
	tree.Set(keyOf(1, 1), digestOf(1, 1))
	tree.Set(keyOf(1, 1), noughts)
	if tree.Get(keyOf(1, 1)) != noughts || tree.Root() != noughts {
		t.Error("a nil tree has digests")
	}
	for _, n := range []int{math.MinInt, -1, 0, 1, 4, 5, 255, 256, math.MaxInt} {
		if l := tree.Keys(n); len(l) != 0 {
			t.Errorf("a nil tree has %d keys", len(l))
		}
		for level := -1; level <= 5; level++ {
			noNode(t, tree, level, n)
		}
		noNode(t, tree, n, 0)
	}
}

// P1: a tree that New didn't make is one of no key.
func TestZero(t *testing.T) {
	tree, m := new(merkle.Tree), model{}
	m.same(t, "zero", tree)
	tree.Set(keyOf(1, 1), noughts)
	m.same(t, "zero, noughts set", tree)
	tree.Set(keyOf(1, 1), digestOf(1, 1))
	m.set(keyOf(1, 1), digestOf(1, 1))
	m.same(t, "zero, a key set", tree)
}
