package net_test

import (
	"bytes"
	"math"
	"math/rand/v2"
	"slices"
	"testing"

	"casket/api"
	"casket/net"
)

const (
	mostBoxes = 9
	mostIn    = 64 // of a box
)

// noBoxes: none of them is a box of a net of so many.
func noBoxes(count int) []int {
	return []int{math.MinInt, math.MinInt32, -9, -1, count, count + 1, 1 << 32, 1<<32 + 1, math.MaxInt}
}

// newNet: one that must be.
func newNet(t *testing.T, boxes int) *net.Net {
	t.Helper()
	n, e := net.New(boxes)
	if n == nil || e != api.OK {
		t.Fatalf("New(%d): error %d, or none", boxes, e)
	}
	return n
}

func sends(t *testing.T, n *net.Net, to int, b string, want api.Errno) {
	t.Helper()
	if e := n.Send(to, []byte(b)); e != want {
		t.Errorf("Send(%d, %q): error %d, want %d", to, b, e, want)
	}
}

func takes(t *testing.T, n *net.Net, box, k int, want string, wantErr api.Errno) {
	t.Helper()
	if b, e := n.Take(box, k); string(b) != want || e != wantErr {
		t.Errorf("Take(%d, %d) = %q, error %d, want %q, error %d", box, k, b, e, want, wantErr)
	}
}

func copies(t *testing.T, n *net.Net, box, k int, want api.Errno) {
	t.Helper()
	if e := n.Copy(box, k); e != want {
		t.Errorf("Copy(%d, %d): error %d, want %d", box, k, e, want)
	}
}

func has(t *testing.T, n *net.Net, box, want int) {
	t.Helper()
	if got := n.Len(box); got != want {
		t.Errorf("Len(%d) = %d, want %d", box, got, want)
	}
}

func saw(t *testing.T, n *net.Net, box int, want ...string) {
	t.Helper()
	if got := texts(n.Seen(box)); !slices.Equal(got, want) {
		t.Errorf("Seen(%d) = %q, want %q", box, got, want)
	}
}

func texts(l [][]byte) []string {
	var out []string
	for _, b := range l {
		out = append(out, string(b))
	}
	return out
}

// P23.1: the chapter's example: send a, b to a box; Take(1): b; Take(0): a.
func TestExample(t *testing.T) {
	n := newNet(t, 1)
	sends(t, n, 0, "a", api.OK)
	sends(t, n, 0, "b", api.OK)
	takes(t, n, 0, 1, "b", api.OK)
	takes(t, n, 0, 0, "a", api.OK)
	has(t, n, 0, 0)
	saw(t, n, 0, "b", "a")
}

// P23.1: which nets there are: of 1 to 9 boxes, all empty.
func TestNewBounds(t *testing.T) {
	for count := 1; count <= mostBoxes; count++ {
		n := newNet(t, count)
		for box := range count {
			has(t, n, box, 0)
			saw(t, n, box)
			takes(t, n, box, 0, "", api.ErrMiss)
			copies(t, n, box, 0, api.ErrMiss)
		}
		for _, box := range noBoxes(count) {
			noBox(t, n, box)
		}
	}
	for _, count := range []int{math.MinInt, math.MinInt32, -9, -1, 0, 10, 11, 64, 256, 257, 1 << 32, 1<<32 + 1, math.MaxInt} {
		if n, e := net.New(count); n != nil || e != api.ErrArg {
			t.Errorf("New(%d): error %d, or a net, want none, ErrArg", count, e)
		}
	}
}

// noBox: of no such box: ErrArg, nothing, whatever is asked.
func noBox(t *testing.T, n *net.Net, box int) {
	t.Helper()
	sends(t, n, box, "a", api.ErrArg)
	sends(t, n, box, "", api.ErrArg)
	for _, k := range []int{math.MinInt, -1, 0, 1, 64, math.MaxInt} {
		takes(t, n, box, k, "", api.ErrArg)
		copies(t, n, box, k, api.ErrArg)
	}
	n.Clear(box)
	has(t, n, box, 0)
	saw(t, n, box)
}

// P23.1: of no such box, while all others have something: ErrArg, nothing, and nothing is changed.
func TestNoBox(t *testing.T) {
	for count := 1; count <= mostBoxes; count++ {
		n := newNet(t, count)
		for box := range count {
			sends(t, n, box, "a", api.OK)
			sends(t, n, box, "b", api.OK)
			takes(t, n, box, 0, "a", api.OK)
		}
		for _, box := range noBoxes(count) {
			noBox(t, n, box)
		}
		for box := range count {
			has(t, n, box, 1)
			saw(t, n, box, "a")
		}
	}
}

// P23.1: a nil net, and one that New didn't make: ErrArg, nothing.
func TestNoNet(t *testing.T) {
	for _, n := range []*net.Net{nil, {}} {
		for _, box := range append(noBoxes(0), 1, 8, 9) {
			noBox(t, n, box)
		}
	}
}

// P23.1: Take of each of some messages: the others stay, in their order.
func TestTake(t *testing.T) {
	all := []string{"a", "b", "c", "d", "e"}
	for k := range all {
		n := newNet(t, 2)
		for _, b := range all {
			sends(t, n, 1, b, api.OK)
		}
		takes(t, n, 1, k, all[k], api.OK)
		has(t, n, 1, 4)
		left := slices.Delete(slices.Clone(all), k, k+1)
		sends(t, n, 1, "f", api.OK)
		for _, b := range append(left, "f") {
			takes(t, n, 1, 0, b, api.OK)
		}
		takes(t, n, 1, 0, "", api.ErrMiss)
		saw(t, n, 1, append([]string{all[k]}, append(left, "f")...)...)
		saw(t, n, 0)
	}
}

// P23.1: ErrMiss of a message that isn't there: nothing is changed, and nothing seen.
func TestMiss(t *testing.T) {
	n := newNet(t, 1)
	for count := range 4 {
		for _, k := range []int{math.MinInt, math.MinInt32, -count, -1, count, count + 1, 64, 1 << 32, math.MaxInt} {
			if 0 <= k && k < count {
				continue
			}
			takes(t, n, 0, k, "", api.ErrMiss)
			copies(t, n, 0, k, api.ErrMiss)
		}
		has(t, n, 0, count)
		saw(t, n, 0)
		sends(t, n, 0, "x", api.OK)
	}
}

// P23.1: a message of no bytes is one like others.
func TestNoBytes(t *testing.T) {
	n := newNet(t, 1)
	if e := n.Send(0, nil); e != api.OK {
		t.Errorf("Send of nil: error %d", e)
	}
	sends(t, n, 0, "", api.OK)
	copies(t, n, 0, 0, api.OK)
	has(t, n, 0, 3)
	for range 3 {
		takes(t, n, 0, 0, "", api.OK)
	}
	takes(t, n, 0, 0, "", api.ErrMiss)
	saw(t, n, 0, "", "", "")
}

// P23.1: Copy of each of some messages: it stands behind the others once more, and isn't seen by that.
func TestCopy(t *testing.T) {
	all := []string{"a", "b", "c"}
	for k := range all {
		n := newNet(t, 1)
		for _, b := range all {
			sends(t, n, 0, b, api.OK)
		}
		copies(t, n, 0, k, api.OK)
		copies(t, n, 0, 3, api.OK)
		has(t, n, 0, 5)
		saw(t, n, 0)
		want := append(slices.Clone(all), all[k], all[k])
		for _, b := range want {
			takes(t, n, 0, 0, b, api.OK)
		}
		saw(t, n, 0, want...)
	}
}

// P23.1: a box has 64 messages, and not one more; each box for itself; where one went, there is room again.
func TestFull(t *testing.T) {
	n := newNet(t, 2)
	for i := range mostIn {
		has(t, n, 0, i)
		sends(t, n, 0, string(rune('0'+i)), api.OK)
	}
	sends(t, n, 0, "x", api.ErrInbox)
	copies(t, n, 0, 0, api.ErrInbox)
	copies(t, n, 0, 63, api.ErrInbox)
	copies(t, n, 0, 64, api.ErrMiss)
	copies(t, n, 0, -1, api.ErrMiss)
	copies(t, n, 2, 0, api.ErrArg)
	sends(t, n, 2, "x", api.ErrArg)
	has(t, n, 0, mostIn)
	sends(t, n, 1, "y", api.OK)
	takes(t, n, 0, 63, string(rune('0'+63)), api.OK)
	copies(t, n, 0, 62, api.OK)
	copies(t, n, 0, 62, api.ErrInbox)
	takes(t, n, 0, 63, string(rune('0'+62)), api.OK)
	sends(t, n, 0, "z", api.OK)
	sends(t, n, 0, "x", api.ErrInbox)
	has(t, n, 0, mostIn)
	takes(t, n, 0, 63, "z", api.OK)
	takes(t, n, 0, 0, "0", api.OK)
}

// P23.1: by copies alone a box has 64 messages, too.
func TestFullOfCopies(t *testing.T) {
	n := newNet(t, 1)
	sends(t, n, 0, "a", api.OK)
	for i := 1; i < mostIn; i++ {
		copies(t, n, 0, i-1, api.OK)
	}
	copies(t, n, 0, 0, api.ErrInbox)
	sends(t, n, 0, "b", api.ErrInbox)
	has(t, n, 0, mostIn)
}

// P23.1: Clear: a box is empty, and may be filled again; what was taken out of it ahead is still seen, what was in it isn't.
func TestClear(t *testing.T) {
	n := newNet(t, 2)
	for box := range 2 {
		for range mostIn {
			sends(t, n, box, "a", api.OK)
		}
		takes(t, n, box, 0, "a", api.OK)
	}
	n.Clear(0)
	n.Clear(0)
	has(t, n, 0, 0)
	has(t, n, 1, mostIn-1)
	saw(t, n, 0, "a")
	takes(t, n, 0, 0, "", api.ErrMiss)
	copies(t, n, 0, 0, api.ErrMiss)
	for range mostIn {
		sends(t, n, 0, "b", api.OK)
	}
	sends(t, n, 0, "c", api.ErrInbox)
	takes(t, n, 0, 63, "b", api.OK)
	saw(t, n, 0, "a", "b")
	saw(t, n, 1, "a")
}

// P23.1: Seen keeps all that were ever taken, however many.
func TestSeenAll(t *testing.T) {
	n := newNet(t, 1)
	var want []string
	for i := range 1000 {
		b := string([]byte{byte(i), byte(i >> 8)})
		want = append(want, b)
		sends(t, n, 0, b, api.OK)
		takes(t, n, 0, 0, b, api.OK)
	}
	saw(t, n, 0, want...)
}

// model: a net as the chapter tells it.
type model struct {
	waiting, taken [][]string
}

func (m *model) send(to int, b string) api.Errno {
	switch {
	case to < 0 || to >= len(m.waiting):
		return api.ErrArg
	case len(m.waiting[to]) == mostIn:
		return api.ErrInbox
	}
	m.waiting[to] = append(m.waiting[to], b)
	return api.OK
}

func (m *model) take(box, k int) (string, api.Errno) {
	switch {
	case box < 0 || box >= len(m.waiting):
		return "", api.ErrArg
	case k < 0 || k >= len(m.waiting[box]):
		return "", api.ErrMiss
	}
	b := m.waiting[box][k]
	m.waiting[box] = slices.Concat(m.waiting[box][:k], m.waiting[box][k+1:])
	m.taken[box] = append(m.taken[box], b)
	return b, api.OK
}

func (m *model) copy(box, k int) api.Errno {
	switch {
	case box < 0 || box >= len(m.waiting):
		return api.ErrArg
	case k < 0 || k >= len(m.waiting[box]):
		return api.ErrMiss
	}
	return m.send(box, m.waiting[box][k])
}

// P23.1: all calls, drawn, of boxes and messages that are there, and that aren't.
func TestDrawn(t *testing.T) {
	for seed := range uint64(60) {
		rng := rand.New(rand.NewPCG(seed, 23))
		count := 1 + rng.IntN(mostBoxes)
		n, m := newNet(t, count), model{make([][]string, count), make([][]string, count)}
		full := seed%3 == 0 // more comes than goes
		for range 1500 {
			box, k := rng.IntN(count), rng.IntN(70)-2
			if rng.IntN(20) == 0 {
				box = rng.IntN(count+4) - 2
			}
			if 0 <= box && box < count && len(m.waiting[box]) > 0 && rng.IntN(2) == 0 {
				k = rng.IntN(len(m.waiting[box]))
			}
			step(t, rng, n, &m, box, k, full)
		}
		for box := range count {
			has(t, n, box, len(m.waiting[box]))
			saw(t, n, box, m.taken[box]...)
			for _, b := range m.waiting[box] {
				takes(t, n, box, 0, b, api.OK)
			}
			saw(t, n, box, append(m.taken[box], m.waiting[box]...)...)
		}
	}
}

// step: one call, of the net and of the model.
func step(t *testing.T, rng *rand.Rand, n *net.Net, m *model, box, k int, full bool) {
	t.Helper()
	what := rng.IntN(10)
	switch {
	case what < 3 || full && what < 6:
		b := string([]byte{byte(rng.IntN(256)), byte(rng.IntN(256))}[:rng.IntN(3)])
		sends(t, n, box, b, m.send(box, b))
	case what < 7:
		b, e := m.take(box, k)
		takes(t, n, box, k, b, e)
	case what < 9:
		copies(t, n, box, k, m.copy(box, k))
	case rng.IntN(8) == 0:
		n.Clear(box)
		if 0 <= box && box < len(m.waiting) {
			m.waiting[box] = nil
		}
	default:
		if 0 <= box && box < len(m.waiting) {
			has(t, n, box, len(m.waiting[box]))
			saw(t, n, box, m.taken[box]...)
		}
	}
}

// P23.2: what is handed in isn't changed, its spare room neither, nor kept.
func TestHandedIn(t *testing.T) {
	n := newNet(t, 1)
	whole := append([]byte("abc"), bytes.Repeat([]byte{0xee}, 20)...)
	was := slices.Clone(whole)
	for range 2 {
		if e := n.Send(0, whole[:3]); e != api.OK {
			t.Fatalf("Send: error %d", e)
		}
	}
	spoil(first(n.Take(0, 0)))
	if !bytes.Equal(whole, was) {
		t.Error("bytes that were handed in were changed")
	}
	spoil(whole)
	takes(t, n, 0, 0, "abc", api.OK)
	saw(t, n, 0, "abc", "abc")
}

func first(b []byte, _ api.Errno) []byte { return b }

// spoil writes over bytes, and their spare room.
func spoil(b []byte) {
	b = b[:cap(b)]
	for i := range b {
		b[i] ^= 0x55
	}
}

// P23.2: answers are new memory: what is done to one changes no message under way, no copy of it, and no other answer.
func TestNewMemory(t *testing.T) {
	n := newNet(t, 1)
	sends(t, n, 0, "abc", api.OK)
	copies(t, n, 0, 0, api.OK)
	copies(t, n, 0, 1, api.OK)
	spoil(first(n.Take(0, 0)))
	saw(t, n, 0, "abc")
	second := first(n.Take(0, 1))
	if string(second) != "abc" {
		t.Errorf("a copy is %q", second)
	}
	for _, b := range n.Seen(0) {
		spoil(b)
	}
	if string(second) != "abc" {
		t.Error("Seen's answer shares memory with Take's")
	}
	saw(t, n, 0, "abc", "abc")
	seen, other := n.Seen(0), n.Seen(0)
	spoil(seen[0])
	if !slices.Equal(texts(seen[1:]), []string{"abc"}) || !slices.Equal(texts(other), []string{"abc", "abc"}) {
		t.Error("two messages of Seen's answers share memory")
	}
	for i := range other[:cap(other)] {
		other[:cap(other)][i] = nil
	}
	takes(t, n, 0, 0, "abc", api.OK)
	saw(t, n, 0, "abc", "abc", "abc")
	if string(seen[1]) != "abc" || len(seen) != 2 {
		t.Error("an answer changes with its net")
	}
}

// Rule 5: two nets know nothing of each other.
func TestTwoNets(t *testing.T) {
	one, other := newNet(t, 2), newNet(t, 2)
	sends(t, one, 0, "a", api.OK)
	sends(t, other, 0, "b", api.OK)
	sends(t, other, 1, "c", api.OK)
	one.Clear(1)
	takes(t, one, 0, 0, "a", api.OK)
	has(t, other, 0, 1)
	has(t, other, 1, 1)
	saw(t, one, 0, "a")
	saw(t, other, 0)
}
