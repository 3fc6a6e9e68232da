package client_test

import (
	"bytes"
	"math/rand/v2"
	"slices"
	"testing"

	"casket/api"
	"casket/client"
	"casket/dot"
	"casket/envelope"
	"casket/sibling"
	"casket/vault"
)

var names = [][]byte{[]byte("a"), []byte("b"), []byte("ab"), text(3, 64)}

// saying: what was written for a name.
type saying struct {
	name    []byte
	value   client.Value
	sibling sibling.Sibling
}

// world: clients of one vault, and all that they wrote, held against what the chapter tells of it.
type world struct {
	t       *testing.T
	rng     *rand.Rand
	vault   *vault.Vault
	twin    *vault.Vault // that is asked and told the same
	clients []*client.Client
	epoch   []int
	counter []int
	count   []map[string]int
	said    []saying
}

func newWorld(t *testing.T, seed uint64, kind string, clients int) *world {
	t.Helper()
	w := &world{t: t, rng: rand.New(rand.NewPCG(27, seed)), vault: both()[kind], twin: both()[kind]}
	for i := range clients {
		w.clients = append(w.clients, made(t, i+1, w.vault))
		w.epoch, w.counter = append(w.epoch, 1), append(w.counter, 0)
		w.count = append(w.count, map[string]int{})
	}
	return w
}

func (w *world) name() []byte { return names[w.rng.IntN(len(names))] }

// past: a part of what was written of a name, and perhaps what nobody wrote.
func (w *world) past(name []byte) dot.Context {
	var c dot.Context
	for _, s := range w.said {
		if bytes.Equal(s.name, name) && w.rng.IntN(4) == 0 {
			if more, e := dot.Add(c, s.value.Dot); e == api.OK {
				c = more
			}
		}
	}
	if w.rng.IntN(4) == 0 {
		c, _ = dot.Add(c, at(1+w.rng.IntN(16), 1+w.rng.IntN(9)))
	}
	return c
}

// write: of a client, that is refused where the chapter says it, and else as the twin vault has it.
func (w *world) write() {
	w.t.Helper()
	i, name := w.rng.IntN(len(w.clients)), w.name()
	past, deleted, value := w.past(name), w.rng.IntN(4) == 0, text(byte(w.rng.IntN(256)), w.rng.IntN(300))
	switch w.rng.IntN(20) {
	case 0:
		value = text(5, 3990+w.rng.IntN(20))
	case 1:
		name = noNames[w.rng.IntN(len(noNames))]
	case 2:
		past.Upto[w.rng.IntN(16)] = -1
	}
	key, s, e := w.clients[i].Write(name, value, deleted, past)
	wantKey, want, wantErr := w.expected(i, name, value, deleted, past)
	if e != wantErr || key != wantKey || !sibling.Same([]sibling.Sibling{s}, []sibling.Sibling{want}) {
		w.t.Fatalf("client %d, %q: error %d, want %d; key %x, want %x; sibling %v, want %v", i+1, name, e, wantErr, key, wantKey, s, want)
	}
	if e != api.OK {
		return
	}
	v := client.Value{Dot: s.Dot, Epoch: w.epoch[i], Past: past, Deleted: deleted, Bytes: value}
	if deleted {
		v.Bytes = nil
	}
	w.said = append(w.said, saying{name, v, s})
}

// expected: what a write answers.
func (w *world) expected(i int, name, value []byte, deleted bool, past dot.Context) (api.Blind, sibling.Sibling, api.Errno) {
	d := at(i+1, w.count[i][string(name)]+1)
	if dot.Has(past, d) || dot.Check(past) == api.ErrContext {
		return api.Blind{}, sibling.Sibling{}, api.ErrContext
	}
	if e := dot.Check(past); e != api.OK {
		return api.Blind{}, sibling.Sibling{}, e
	}
	pb, _ := dot.Write(past)
	h := envelope.Head{Epoch: w.epoch[i], Counter: w.counter[i] + 1, Dot: d, Past: pb}
	sealed, e := envelope.Seal(w.twin, name, h, value, deleted)
	if e != api.OK {
		return api.Blind{}, sibling.Sibling{}, e
	}
	w.counter[i]++
	w.count[i][string(name)]++
	body, _ := envelope.Write(sealed)
	return sealed.Key, sibling.Sibling{Dot: d, Past: past, Body: body}, api.OK
}

// read: by a client, of siblings that were written, of one name or of several, that it tells them as they were.
func (w *world) read() {
	w.t.Helper()
	name := w.name()
	var l []sibling.Sibling
	var want []client.Value
	others, e := 0, api.OK
	for range w.rng.IntN(10) {
		if len(w.said) == 0 {
			break
		}
		s := w.said[w.rng.IntN(len(w.said))]
		l = append(l, s.sibling)
		if bytes.Equal(s.name, name) {
			want = append(want, s.value)
			continue
		}
		others, e = others+1, api.ErrAuth
	}
	i := w.rng.IntN(len(w.clients))
	reads(w.t, "drawn", w.clients[i], name, l, want, others, e)
	if others > 0 { // the vault was asked to open something of this name
		w.twin.Blind(name)
	}
}

// as: the clients tell what they are told to tell.
func (w *world) as() {
	w.t.Helper()
	all := 0
	for i, c := range w.clients {
		all += w.counter[i]
		if c.Epoch() != w.epoch[i] || c.Sealed() != w.counter[i] {
			w.t.Fatalf("client %d: epoch %d, sealed %d, want %d, %d", i+1, c.Epoch(), c.Sealed(), w.epoch[i], w.counter[i])
		}
	}
	if w.vault.Count() != all {
		w.t.Fatalf("the vault has sealed %d, want %d", w.vault.Count(), all)
	}
}

// P27.1, P27.2: drawn calls of some clients with one vault; all that was written is read again, by all of them, in whichever epoch they are.
func TestDrawn(t *testing.T) {
	for kind := range both() {
		for seed := range uint64(40) {
			w := newWorld(t, seed, kind, 1+int(seed%5))
			for range 150 {
				switch n := w.rng.IntN(12); {
				case n < 6:
					w.write()
				case n < 8:
					i := w.rng.IntN(len(w.clients))
					if e := w.clients[i].Rotate(); e != api.OK {
						t.Fatal(e)
					}
					w.epoch[i]++
				case n < 9:
					name := w.name()
					want, _ := w.twin.Blind(name)
					if key, e := w.clients[0].Key(name); key != want || e != api.OK {
						t.Fatalf("Key: %x, error %d, want %x", key, e, want)
					}
				default:
					w.read()
				}
				w.as()
			}
			for _, c := range w.clients {
				for _, s := range w.said {
					reads(t, "in the end", c, s.name, []sibling.Sibling{s.sibling}, []client.Value{s.value}, 0, api.OK)
				}
			}
		}
	}
}

// P27.2: values of all lengths, and a deletion, are read again.
func TestReadAgain(t *testing.T) {
	for kind, v := range both() {
		a, b := made(t, 4, v), made(t, 5, v)
		for n := 0; n <= 3999; n += 1 + n/50 {
			p := past(at(5+n%12, n+1), at(6, 2*n+5))
			value := text(byte(n), n)
			s := wrote(t, a, name, value, p)
			want := client.Value{Dot: s.Dot, Epoch: 1, Past: p, Bytes: value}
			reads(t, kind, b, name, []sibling.Sibling{s}, []client.Value{want}, 0, api.OK)
		}
		_, s, e := a.Write(name, text(0, 10), true, dot.Context{})
		if e != api.OK {
			t.Fatal(e)
		}
		reads(t, kind, b, name, []sibling.Sibling{s}, []client.Value{{Dot: s.Dot, Epoch: 1, Deleted: true}}, 0, api.OK)
	}
}

// wasSaid: was just this value written for the name?
func (w *world) wasSaid(name []byte, v client.Value) bool {
	return slices.ContainsFunc(w.said, func(s saying) bool { return bytes.Equal(s.name, name) && sameValue(s.value, v) })
}

// forged: a sibling that the adversary makes out of what was written.
func (w *world) forged() sibling.Sibling {
	any := func() sibling.Sibling { return w.said[w.rng.IntN(len(w.said))].sibling }
	s := any()
	s.Body = slices.Clone(s.Body)
	for range 1 + w.rng.IntN(2) {
		switch w.rng.IntN(14) {
		case 0:
			s.Body[w.rng.IntN(len(s.Body))] ^= 1 << w.rng.IntN(8)
		case 1:
			s.Dot = any().Dot
		case 2:
			s.Past = any().Past
		case 3:
			s.Dot.Number += w.rng.IntN(3) - 1
		case 4:
			s.Past, _ = dot.Add(s.Past, at(1+w.rng.IntN(16), 1+w.rng.IntN(5)))
		case 5:
			s.Body = s.Body[:w.rng.IntN(len(s.Body)+1)]
			s.Body = append(s.Body, text(byte(w.rng.IntN(256)), 1+w.rng.IntN(90))...)
		case 6:
			return w.mixed(s, any())
		default: // as it is, or of another name
		}
	}
	return s
}

// mixed: an envelope whose fields are of two, beside a dot and a past that fit, so that nothing but the vault can tell.
func (w *world) mixed(s, other sibling.Sibling) sibling.Sibling {
	a, e := envelope.Read(s.Body)
	if e != api.OK {
		return s
	}
	b, e := envelope.Read(other.Body)
	if e != api.OK {
		return s
	}
	s.Dot, s.Past = a.Head.Dot, pastOf(a.Head.Past)
	switch w.rng.IntN(6) {
	case 0:
		a.Key = b.Key
	case 1:
		a.Head.Epoch = b.Head.Epoch
	case 2:
		a.Head.Counter = b.Head.Counter
	case 3:
		a.Head.Dot, s.Dot = b.Head.Dot, b.Head.Dot
	case 4:
		a.Head.Past, s.Past = b.Head.Past, pastOf(b.Head.Past)
	case 5:
		a.Sealed = b.Sealed
	}
	s.Body, _ = envelope.Write(a)
	return s
}

func pastOf(b []byte) dot.Context {
	c, _ := dot.Read(b)
	return c
}

// P27.3: by an ideal vault, whatever the siblings are: what is told was written, just so; all else is counted, and changes nothing.
func TestForged(t *testing.T) {
	told, passed := 0, 0
	for seed := range uint64(60) {
		w := newWorld(t, seed, "ideal", 1+int(seed%4))
		for len(w.said) < 30 {
			w.write()
			i := w.rng.IntN(len(w.clients))
			if w.rng.IntN(5) == 0 && w.clients[i].Rotate() == api.OK {
				w.epoch[i]++
			}
		}
		for range 60 {
			name, i := w.name(), w.rng.IntN(len(w.clients))
			var l []sibling.Sibling
			for range 1 + w.rng.IntN(8) {
				l = append(l, w.forged())
			}
			w.twin.Blind(name)
			w.vault.Blind(name)
			values, n, e := w.clients[i].Read(name, l)
			if len(values)+n != len(l) || (e == api.OK) != (n == 0) {
				t.Fatalf("%d of %d told, %d passed over, error %d", len(values), len(l), n, e)
			}
			for _, v := range values {
				if !w.wasSaid(name, v) {
					t.Fatalf("seed %d: nobody has written %v for %q", seed, v, name)
				}
			}
			told, passed = told+len(values), passed+n
			w.as()
			w.write() // as the twin vault has it, that was shown nothing forged
		}
	}
	if told < 1000 || passed < 1000 {
		t.Errorf("only %d told, %d passed over", told, passed)
	}
}

// P27.3: each bit of a body, a dot, and a past: what it belongs to may be told, nothing else.
func TestEachBit(t *testing.T) {
	for kind, v := range both() {
		c := made(t, 2, v)
		p := past(at(1, 1), at(3, 5))
		s := wrote(t, c, name, []byte("x"), p)
		for i := range 8 * len(s.Body) {
			f := s
			f.Body = slices.Clone(s.Body)
			f.Body[i/8] ^= 1 << (i % 8)
			if e, err := envelope.Read(f.Body); err == api.OK { // what stands beside it is just as in it
				f.Dot = e.Head.Dot
				if past, e := dot.Read(e.Head.Past); e == api.OK {
					f.Past = past
				}
			}
			if l, n, e := c.Read(name, []sibling.Sibling{f}); len(l) != 0 || n != 1 || e != api.ErrAuth && e != api.ErrDecode {
				t.Fatalf("%s, bit %d: %v, %d, error %d", kind, i, l, n, e)
			}
		}
	}
}

// roomy: b with spare room behind it, and a look whether any of it was changed.
func roomy(b []byte) ([]byte, func() bool) {
	whole := append(slices.Clone(b), bytes.Repeat([]byte{0xee}, 80)...)
	was := slices.Clone(whole)
	return whole[:len(b)], func() bool { return !bytes.Equal(whole, was) }
}

// roomyDots: likewise.
func roomyDots(l []api.Dot) ([]api.Dot, func() bool) {
	whole := append(slices.Clone(l), slices.Repeat([]api.Dot{at(77, 77)}, 40)...)
	was := slices.Clone(whole)
	return whole[:len(l)], func() bool { return !slices.Equal(whole, was) }
}

// spoil writes over bytes, and behind them.
func spoil(b []byte) {
	for i := range b {
		b[i] ^= 0x55
	}
	_ = append(b, 1, 2, 3)
}

func spoilDots(l []api.Dot) {
	for i := range l {
		l[i] = at(66, 66)
	}
	_ = append(l, at(66, 67))
}

// deep: a sibling that shares no memory with s.
func deep(s sibling.Sibling) sibling.Sibling {
	s.Body, s.Past.More = slices.Clone(s.Body), slices.Clone(s.Past.More)
	return s
}

// P27.4: what a write is handed isn't changed and not kept, and what it answers isn't either.
func TestWriteMemory(t *testing.T) {
	for kind, v := range both() {
		twin := both()[kind]
		c, want := made(t, 1, v), made(t, 1, twin)
		for i := range 4 {
			n, nameChanged := roomy(name)
			value, valueChanged := roomy([]byte("value"))
			more, moreChanged := roomyDots([]api.Dot{at(2, 5), at(3, 7)})
			deleted := i == 1
			_, s, e := c.Write(n, value, deleted, dot.Context{More: more})
			if e != api.OK || nameChanged() || valueChanged() || moreChanged() {
				t.Errorf("%s: error %d, changed: %t, %t, %t", kind, e, nameChanged(), valueChanged(), moreChanged())
			}
			spoil(n)
			spoil(value)
			spoilDots(more)
			wantKey, wantSibling, _ := want.Write(name, []byte("value"), deleted, dot.Context{More: []api.Dot{at(2, 5), at(3, 7)}})
			if !sibling.Same([]sibling.Sibling{s}, []sibling.Sibling{wantSibling}) {
				t.Errorf("%s: what was handed in was kept: %v, want %v", kind, s, wantSibling)
			}
			kept := deep(s)
			reads(t, kind, c, name, []sibling.Sibling{s}, []client.Value{{Dot: s.Dot, Epoch: 1, Past: kept.Past, Deleted: deleted, Bytes: valueOf(deleted)}}, 0, api.OK)
			spoil(s.Body)
			spoilDots(s.Past.More)
			reads(t, kind+", spoilt", c, name, []sibling.Sibling{kept}, []client.Value{{Dot: s.Dot, Epoch: 1, Past: deep(kept).Past, Deleted: deleted, Bytes: valueOf(deleted)}}, 0, api.OK)
			if key, _ := c.Key(name); key != wantKey {
				t.Errorf("%s: the key is %x, want %x", kind, key, wantKey)
			}
		}
	}
}

func valueOf(deleted bool) []byte {
	if deleted {
		return nil
	}
	return []byte("value")
}

// P27.4: nor what a Read is handed; its values share no memory with it, nor with each other.
func TestReadMemory(t *testing.T) {
	for kind, v := range both() {
		c := made(t, 1, v)
		p := past(at(2, 5), at(3, 7))
		s := wrote(t, c, name, []byte("value"), p)
		n, nameChanged := roomy(name)
		more, moreChanged := roomyDots(s.Past.More)
		body, bodyChanged := roomy(s.Body)
		shared := sibling.Sibling{Dot: s.Dot, Past: dot.Context{Upto: s.Past.Upto, More: more}, Body: body}
		whole := []sibling.Sibling{shared, shared, {Dot: at(9, 9)}, shared, {Dot: at(8, 8)}}
		first, passed, e := c.Read(n, whole[:4])
		if len(first) != 3 || passed != 1 || e != api.ErrDecode {
			t.Fatalf("%s: %v, %d, error %d", kind, first, passed, e)
		}
		if nameChanged() || moreChanged() || bodyChanged() || whole[2].Dot != at(9, 9) || whole[4].Dot != at(8, 8) {
			t.Errorf("%s: what was handed in was changed", kind)
		}
		second, _, _ := c.Read(n, whole[:4])
		spoil(n)
		spoil(body)
		spoilDots(more)
		want := client.Value{Dot: s.Dot, Epoch: 1, Past: past(at(2, 5), at(3, 7)), Bytes: []byte("value")}
		for i := range first {
			for _, v := range slices.Concat(first[i:], second) {
				if !sameValue(v, want) {
					t.Fatalf("%s: %v, want %v", kind, v, want)
				}
			}
			spoil(first[i].Bytes)
			spoilDots(first[i].Past.More)
		}
		reads(t, kind+", anew", c, name, []sibling.Sibling{s}, []client.Value{want}, 0, api.OK)
	}
}
