package client_test

import (
	"bytes"
	"encoding/binary"
	"math"
	"slices"
	"testing"

	"casket/api"
	"casket/client"
	"casket/dot"
	"casket/envelope"
	"casket/sibling"
	"casket/vault"
)

var (
	secret  = [32]byte{3, 1, 4, 1, 5}
	noNames = [][]byte{nil, {}, make([]byte, 65), make([]byte, 1000)}
	name    = []byte("name")
)

// both: a new vault of each kind, of the same secret.
func both() map[string]*vault.Vault {
	return map[string]*vault.Vault{"real": vault.Real(secret), "ideal": vault.Ideal(secret)}
}

func at(client, number int) api.Dot { return api.Dot{Client: client, Number: number} }

// past: of some dots.
func past(dots ...api.Dot) dot.Context {
	var c dot.Context
	for _, d := range dots {
		c, _ = dot.Add(c, d)
	}
	return c
}

// text: so many bytes, each unlike its neighbours.
func text(first byte, n int) []byte {
	out := make([]byte, n)
	for i := range out {
		out[i] = first + byte(37*i+i>>8)
	}
	return out
}

func made(t *testing.T, id int, v *vault.Vault) *client.Client {
	t.Helper()
	c, e := client.New(id, v)
	if e != api.OK || c == nil {
		t.Fatalf("New of %d: error %d", id, e)
	}
	return c
}

// wrote: a write that isn't refused.
func wrote(t *testing.T, c *client.Client, name, value []byte, past dot.Context) sibling.Sibling {
	t.Helper()
	_, s, e := c.Write(name, value, false, past)
	if e != api.OK {
		t.Fatalf("Write of %q, %d bytes: error %d", name, len(value), e)
	}
	return s
}

// refused: a write that is, and nothing else.
func refused(t *testing.T, what string, want api.Errno, c *client.Client, name, value []byte, deleted bool, past dot.Context) {
	t.Helper()
	key, s, e := c.Write(name, value, deleted, past)
	if e != want || key != (api.Blind{}) || !sibling.Same([]sibling.Sibling{s}, []sibling.Sibling{{}}) {
		t.Errorf("%s: error %d, want %d; key %x, %d bytes, dot %v", what, e, want, key[:4], len(s.Body), s.Dot)
	}
}

// headOf: what a sibling's body tells of its head.
func headOf(t *testing.T, s sibling.Sibling) envelope.Head {
	t.Helper()
	e, err := envelope.Read(s.Body)
	if err != api.OK {
		t.Fatalf("envelope.Read: error %d", err)
	}
	return e.Head
}

func sameValue(a, b client.Value) bool {
	return a.Dot == b.Dot && a.Epoch == b.Epoch && dot.Same(a.Past, b.Past) && a.Deleted == b.Deleted && bytes.Equal(a.Bytes, b.Bytes)
}

// reads: these values, so many passed over, this error.
func reads(t *testing.T, what string, c *client.Client, name []byte, l []sibling.Sibling, want []client.Value, wantPassed int, wantErr api.Errno) {
	t.Helper()
	got, passed, e := c.Read(name, l)
	if !slices.EqualFunc(got, want, sameValue) || passed != wantPassed || e != wantErr {
		t.Errorf("%s: %v, %d passed over, error %d; want %v, %d, %d", what, got, passed, e, want, wantPassed, wantErr)
	}
}

// P27.1: a client has a number that there is, and a vault.
func TestNew(t *testing.T) {
	for kind, v := range both() {
		for _, id := range []int{1, 2, 15, 16} {
			c, e := client.New(id, v)
			if e != api.OK || c.Epoch() != 1 || c.Sealed() != 0 {
				t.Errorf("%s, %d: error %d, epoch %d, sealed %d", kind, id, e, c.Epoch(), c.Sealed())
			}
		}
		for _, id := range []int{0, -1, 17, 32, 1 << 32, 1<<32 + 1, math.MinInt, math.MaxInt} {
			if c, e := client.New(id, v); c != nil || e != api.ErrArg {
				t.Errorf("%s, %d: error %d", kind, id, e)
			}
		}
	}
	for _, id := range []int{0, 1, 16, 17} {
		if c, e := client.New(id, nil); c != nil || e != api.ErrArg {
			t.Errorf("no vault, %d: error %d", id, e)
		}
	}
}

// P27.1, P1: a nil client, and one that New didn't make.
func TestNone(t *testing.T) {
	s := wrote(t, made(t, 1, vault.Ideal(secret)), name, nil, dot.Context{})
	for _, c := range []*client.Client{nil, {}} {
		if n, m, e := c.Epoch(), c.Sealed(), c.Rotate(); n != 0 || m != 0 || e != api.ErrArg || c.Epoch() != 0 {
			t.Errorf("epoch %d, sealed %d, Rotate: error %d", n, m, e)
		}
		if key, e := c.Key(name); key != (api.Blind{}) || e != api.ErrArg {
			t.Errorf("Key: %x, error %d", key, e)
		}
		for _, n := range append(noNames, name) {
			refused(t, "none", api.ErrArg, c, n, nil, false, dot.Context{})
			refused(t, "none", api.ErrArg, c, n, nil, false, past(at(1, 1), at(16, 1)))
			reads(t, "none", c, n, []sibling.Sibling{s}, nil, 0, api.ErrArg)
			reads(t, "none", c, n, nil, nil, 0, api.ErrArg)
		}
	}
}

// P27.1: Rotate goes one epoch on, up to the last one.
func TestRotate(t *testing.T) {
	c, other := made(t, 1, vault.Real(secret)), made(t, 2, vault.Real(secret))
	for n := 1; n < api.MaxEpoch; n++ {
		if c.Epoch() != n {
			t.Fatalf("epoch %d, want %d", c.Epoch(), n)
		}
		if e := c.Rotate(); e != api.OK {
			t.Fatalf("Rotate of %d: error %d", n, e)
		}
	}
	for range 3 {
		if e := c.Rotate(); e != api.ErrEpoch || c.Epoch() != api.MaxEpoch {
			t.Errorf("beyond: error %d, epoch %d", e, c.Epoch())
		}
	}
	s := wrote(t, c, name, []byte("x"), dot.Context{})
	if h := headOf(t, s); h.Epoch != api.MaxEpoch || h.Counter != 1 {
		t.Errorf("a write in the last epoch: %+v", h)
	}
	if other.Epoch() != 1 || c.Sealed() != 1 {
		t.Errorf("another client's epoch: %d; sealed %d", other.Epoch(), c.Sealed())
	}
}

// bodyOf: the bytes of a sealed value, as the chapters tell them.
func bodyOf(key api.Blind, epoch, counter int, d api.Dot, past, sealed []byte) []byte {
	out := slices.Clone(key[:])
	for _, n := range []int{epoch, counter, d.Client, d.Number} {
		out = binary.BigEndian.AppendUint64(out, uint64(n))
	}
	for _, b := range [][]byte{past, sealed} {
		out = append(binary.BigEndian.AppendUint32(out, uint32(len(b))), b...)
	}
	return out
}

// P27.1: the key, and the sibling's fields; its body is of the epoch, the counter, the dot and the past.
func TestWrite(t *testing.T) {
	pasts := []dot.Context{{}, past(at(2, 1)), past(at(1, 9), at(16, 4), at(16, 5)), {Upto: [16]int{15: 1 << 40}}}
	for kind, v := range both() {
		twin := both()[kind]
		c := made(t, 5, v)
		for i, p := range pasts {
			deleted, value := i == 2, text(byte(i), 100*i)
			key, s, e := c.Write(name, value, deleted, p)
			wantKey, _ := twin.Blind(name)
			d := at(5, i+1)
			if e != api.OK || key != wantKey || s.Dot != d || !dot.Same(s.Past, p) {
				t.Errorf("%s %d: error %d, key %x, dot %v, past %v", kind, i, e, key[:4], s.Dot, s.Past)
			}
			pb, _ := dot.Write(p)
			sealed, e := envelope.Seal(twin, name, envelope.Head{Epoch: i + 1, Counter: i + 1, Dot: d, Past: pb}, value, deleted)
			if want := bodyOf(wantKey, i+1, i+1, d, pb, sealed.Sealed); e != api.OK || !bytes.Equal(s.Body, want) {
				t.Errorf("%s %d: body %x, want %x", kind, i, s.Body, want)
			}
			if c.Sealed() != i+1 || v.Count() != i+1 {
				t.Errorf("%s %d: sealed %d, vault %d", kind, i, c.Sealed(), v.Count())
			}
			if e := c.Rotate(); e != api.OK {
				t.Error(e)
			}
		}
	}
}

// P27.1: a dot's number counts the writes of its name, a counter all sealings of the client.
func TestNumbers(t *testing.T) {
	v := vault.Ideal(secret)
	a, b := made(t, 1, v), made(t, 2, v)
	long, longer := text(1, 64), append(text(1, 63), 0)
	for i, x := range []struct {
		c               *client.Client
		name            []byte
		number, counter int
	}{
		{a, name, 1, 1}, {a, name, 2, 2}, {a, []byte("names"), 1, 3}, {b, name, 1, 1}, {a, name, 3, 4}, {a, []byte{0}, 1, 5},
		{a, []byte{0, 0}, 1, 6}, {b, []byte{0}, 1, 2}, {a, []byte{0}, 2, 7}, {a, long, 1, 8}, {a, longer, 1, 9}, {a, long, 2, 10}, {b, name, 2, 3},
	} {
		s := wrote(t, x.c, x.name, nil, dot.Context{})
		h := headOf(t, s)
		if s.Dot.Number != x.number || h.Counter != x.counter || h.Dot != s.Dot || x.c.Sealed() != x.counter {
			t.Errorf("%d: dot %v, head %+v, sealed %d, want number %d, counter %d", i, s.Dot, h, x.c.Sealed(), x.number, x.counter)
		}
	}
}

// P27.1: the chapter's example.
func TestExample(t *testing.T) {
	for id := 1; id <= api.MaxClients; id++ {
		c := made(t, id, vault.Real(secret))
		first, second := wrote(t, c, name, []byte("x"), dot.Context{}), wrote(t, c, name, []byte("y"), dot.Context{})
		if first.Dot != at(id, 1) || second.Dot != at(id, 2) {
			t.Errorf("dots %v, %v", first.Dot, second.Dot)
		}
	}
}

// many: more dots beside each other than a context has room for, or just as many.
func many(n int) dot.Context {
	var c dot.Context
	for i := range n {
		c.More = append(c.More, at(9, 2*i+2))
	}
	return c
}

// P27.1: what a write is refused for, the first that applies, and that no number is used up by it.
func TestWriteErrors(t *testing.T) {
	big, most := text(1, 4000), text(1, 3999)
	low, beyond := dot.Context{Upto: [16]int{3: -1}}, dot.Context{Upto: [16]int{0: 1 << 40, 3: 1<<40 + 1}}
	noMore := dot.Context{Upto: [16]int{0: 9}, More: []api.Dot{at(1, 10)}}
	seen, seenMore := past(at(1, 1), at(1, 2)), past(at(1, 2))
	for kind, v := range both() {
		c := made(t, 1, v)
		for i, x := range []struct {
			name, value []byte
			deleted     bool
			past        dot.Context
			want        api.Errno
		}{
			{name, nil, false, past(at(1, 1)), api.ErrContext},
			{name, nil, true, past(at(1, 1)), api.ErrContext},
			{name, nil, false, seen, api.ErrContext},
			{name, nil, false, dot.Context{Upto: [16]int{1 << 40}}, api.ErrContext},
			{name, nil, false, many(33), api.ErrContext},
			{name, big, false, many(33), api.ErrContext},
			{nil, nil, false, many(33), api.ErrContext},
			{nil, big, false, seen, api.ErrContext},
			{make([]byte, 65), nil, false, seen, api.ErrContext},
			{name, big, false, seen, api.ErrContext},
			{name, nil, false, low, api.ErrArg},
			{name, nil, false, beyond, api.ErrArg},
			{name, nil, false, noMore, api.ErrArg},
			{name, nil, false, dot.Context{Upto: low.Upto, More: many(33).More}, api.ErrArg},
			{name, nil, false, dot.Context{More: []api.Dot{at(17, 2)}}, api.ErrArg},
			{name, big, false, low, api.ErrArg},
			{nil, nil, false, dot.Context{}, api.ErrArg},
			{[]byte{}, big, false, seenMore, api.ErrArg},
			{make([]byte, 65), big, true, dot.Context{}, api.ErrArg},
			{name, big, false, dot.Context{}, api.ErrBig},
			{name, big, false, seenMore, api.ErrBig},
			{name, text(1, 70000), false, dot.Context{}, api.ErrBig},
		} {
			refused(t, kind+" "+string(rune('a'+i)), x.want, c, x.name, x.value, x.deleted, x.past)
			if c.Sealed() != 0 || v.Count() != 0 || c.Epoch() != 1 {
				t.Fatalf("%s %d: sealed %d", kind, i, c.Sealed())
			}
		}
		s := wrote(t, c, name, most, dot.Context{})
		if h := headOf(t, s); s.Dot != at(1, 1) || h.Counter != 1 {
			t.Errorf("%s, behind all: %v, %+v", kind, s.Dot, h)
		}
		refused(t, kind+" again", api.ErrContext, c, name, nil, false, seen) // its dot is the second one now
		s = wrote(t, c, name, nil, past(at(1, 1)))
		if h := headOf(t, s); s.Dot != at(1, 2) || h.Counter != 2 {
			t.Errorf("%s, the second: %v, %+v", kind, s.Dot, h)
		}
	}
}

// P27.1: the edges that aren't refused.
func TestWriteEdges(t *testing.T) {
	c := made(t, 1, vault.Real(secret))
	full := many(32)
	full.Upto[2] = 1 << 40
	for i, x := range []struct {
		name, value []byte
		deleted     bool
		past        dot.Context
	}{
		{text(9, 1), text(0, 0), false, dot.Context{}},
		{text(9, 64), text(0, 3999), false, full},
		{text(8, 64), text(0, 70000), true, full},
		{text(7, 64), nil, false, past(at(1, 2))},
	} {
		_, s, e := c.Write(x.name, x.value, x.deleted, x.past)
		if e != api.OK {
			t.Fatalf("%d: error %d", i, e)
		}
		want := client.Value{Dot: at(1, 1), Epoch: 1, Past: x.past, Deleted: x.deleted, Bytes: x.value}
		if x.deleted {
			want.Bytes = nil
		}
		reads(t, "edge", c, x.name, []sibling.Sibling{s}, []client.Value{want}, 0, api.OK)
	}
}

// P27.1: what another client of that number has sealed isn't sealed again: a counter is used up, but no dot's number.
func TestSpent(t *testing.T) {
	for kind, v := range both() {
		a, b := made(t, 3, v), made(t, 3, v)
		for i := range 3 {
			wrote(t, a, name, []byte{byte(i)}, dot.Context{})
		}
		refused(t, kind+" big", api.ErrBig, b, name, text(1, 4000), false, dot.Context{}) // ahead of the vault: no counter
		refused(t, kind+" seen", api.ErrContext, b, name, nil, false, past(at(3, 1)))
		for range 3 {
			refused(t, kind, api.ErrSpent, b, name, nil, false, dot.Context{})
			if b.Sealed() != 0 || v.Count() != 3 {
				t.Errorf("%s: sealed %d, vault %d", kind, b.Sealed(), v.Count())
			}
		}
		s := wrote(t, b, name, nil, dot.Context{})
		if h := headOf(t, s); s.Dot != at(3, 1) || h.Counter != 4 || b.Sealed() != 1 || v.Count() != 4 {
			t.Errorf("%s: %v, %+v, sealed %d, vault %d", kind, s.Dot, h, b.Sealed(), v.Count())
		}
		refused(t, kind+" the other one", api.ErrSpent, a, name, nil, true, dot.Context{})
		s = wrote(t, a, name, nil, dot.Context{})
		if h := headOf(t, s); s.Dot != at(3, 4) || h.Counter != 5 || a.Sealed() != 4 {
			t.Errorf("%s: %v, %+v, sealed %d", kind, s.Dot, h, a.Sealed())
		}
	}
}

// P27.1: Key is the vault's Blind.
func TestKey(t *testing.T) {
	for kind, v := range both() {
		twin := both()[kind]
		c, d := made(t, 1, v), made(t, 2, v)
		for _, n := range [][]byte{name, []byte("n"), name, text(1, 64), text(1, 63), {0}, {0, 0}} {
			want, _ := twin.Blind(n)
			got, e := c.Key(n)
			again, _ := d.Key(n)
			if got != want || again != want || e != api.OK {
				t.Errorf("%s, %q: %x, %x, error %d, want %x", kind, n, got, again, e, want)
			}
		}
		for _, n := range noNames {
			if key, e := c.Key(n); key != (api.Blind{}) || e != api.ErrArg {
				t.Errorf("%s, %d bytes: %x, error %d", kind, len(n), key, e)
			}
		}
		if c.Sealed() != 0 {
			t.Error("a Key has sealed something")
		}
	}
}

// P27.1: no name, nothing told, whatever the siblings are.
func TestReadNoName(t *testing.T) {
	for kind, v := range both() {
		c := made(t, 1, v)
		s := wrote(t, c, name, []byte("x"), dot.Context{})
		for _, n := range noNames {
			reads(t, kind, c, n, nil, nil, 0, api.ErrArg)
			reads(t, kind, c, n, []sibling.Sibling{s, {}}, nil, 0, api.ErrArg)
		}
		reads(t, kind, c, name, nil, nil, 0, api.OK)
		reads(t, kind, c, text(1, 64), []sibling.Sibling{}, nil, 0, api.OK)
	}
}

// sealedAs: a sibling whose body seals just these bytes, padded or not.
func sealedAs(t *testing.T, v *vault.Vault, id, counter int, padded []byte) sibling.Sibling {
	t.Helper()
	key, _ := v.Blind(name)
	s := sibling.Sibling{Dot: at(id, counter)}
	pb, _ := dot.Write(s.Past)
	with := bodyOf(key, 1, counter, s.Dot, pb, nil)
	with = with[:len(with)-4]
	sealed, e := v.Seal(1, id, counter, with, padded)
	if e != api.OK {
		t.Fatal(e)
	}
	s.Body = bodyOf(key, 1, counter, s.Dot, pb, sealed)
	return s
}

// P27.1: each way in which a sibling isn't what was sealed, and the error of it.
func TestReadErrors(t *testing.T) {
	for kind, v := range both() {
		c, other := made(t, 1, v), made(t, 3, vault.Real([32]byte{9}))
		p := past(at(2, 1), at(4, 7))
		_, s, e := c.Write(name, []byte("x"), false, p)
		if e != api.OK {
			t.Fatal(e)
		}
		want := client.Value{Dot: s.Dot, Epoch: 1, Past: p, Bytes: []byte("x")}
		reads(t, kind, c, name, []sibling.Sibling{s}, []client.Value{want}, 0, api.OK)
		spoilt := func(at int) []byte {
			b := slices.Clone(s.Body)
			b[at] ^= 1
			return b
		}
		last := len(s.Body) - 1
		for what, x := range map[string]struct {
			s    sibling.Sibling
			want api.Errno
		}{
			"nothing":                    {sibling.Sibling{}, api.ErrDecode},
			"no body":                    {sibling.Sibling{Dot: s.Dot, Past: p}, api.ErrDecode},
			"cut":                        {sibling.Sibling{Dot: s.Dot, Past: p, Body: s.Body[:last]}, api.ErrDecode},
			"longer":                     {sibling.Sibling{Dot: s.Dot, Past: p, Body: append(slices.Clone(s.Body), 0)}, api.ErrDecode},
			"cut, another dot":           {sibling.Sibling{Dot: at(1, 2), Past: p, Body: s.Body[:last]}, api.ErrDecode},
			"another client":             {sibling.Sibling{Dot: at(2, 1), Past: p, Body: s.Body}, api.ErrAuth},
			"another number":             {sibling.Sibling{Dot: at(1, 2), Past: p, Body: s.Body}, api.ErrAuth},
			"no dot":                     {sibling.Sibling{Past: p, Body: s.Body}, api.ErrAuth},
			"no past":                    {sibling.Sibling{Dot: s.Dot, Body: s.Body}, api.ErrAuth},
			"a dot less":                 {sibling.Sibling{Dot: s.Dot, Past: past(at(2, 1)), Body: s.Body}, api.ErrAuth},
			"a dot more":                 {sibling.Sibling{Dot: s.Dot, Past: past(at(2, 1), at(4, 7), at(4, 9)), Body: s.Body}, api.ErrAuth},
			"an Upto more":               {sibling.Sibling{Dot: s.Dot, Past: past(at(2, 1), at(4, 7), at(4, 1)), Body: s.Body}, api.ErrAuth},
			"no context":                 {sibling.Sibling{Dot: s.Dot, Past: dot.Context{Upto: [16]int{-1}}, Body: s.Body}, api.ErrAuth},
			"too large a context":        {sibling.Sibling{Dot: s.Dot, Past: many(33), Body: s.Body}, api.ErrAuth},
			"another key":                {sibling.Sibling{Dot: s.Dot, Past: p, Body: spoilt(31)}, api.ErrAuth},
			"another epoch":              {sibling.Sibling{Dot: s.Dot, Past: p, Body: spoilt(38)}, api.ErrAuth},
			"another counter":            {sibling.Sibling{Dot: s.Dot, Past: p, Body: spoilt(46)}, api.ErrAuth},
			"another dot in the body":    {sibling.Sibling{Dot: s.Dot, Past: p, Body: spoilt(62)}, api.ErrAuth},
			"another past in the body":   {sibling.Sibling{Dot: s.Dot, Past: p, Body: spoilt(68 + 8 + 7)}, api.ErrAuth},
			"a sealed byte":              {sibling.Sibling{Dot: s.Dot, Past: p, Body: spoilt(last)}, api.ErrAuth},
			"the first sealed byte":      {sibling.Sibling{Dot: s.Dot, Past: p, Body: spoilt(last - 79)}, api.ErrAuth},
			"another name's":             {wrote(t, c, []byte("other"), []byte("x"), p), api.ErrAuth},
			"another vault's":            {wrote(t, other, name, []byte("x"), p), api.ErrAuth},
			"not padded":                 {sealedAs(t, v, 7, 1, []byte("xxxx")), api.ErrDecode},
			"no bytes at all":            {sealedAs(t, v, 7, 2, nil), api.ErrDecode},
			"padded, no value":           {sealedAs(t, v, 7, 3, make([]byte, 64)), api.ErrDecode},
			"padded, deleted, and bytes": {sealedAs(t, v, 7, 4, append([]byte{0, 0, 0, 2, 0, 7}, make([]byte, 58)...)), api.ErrDecode},
			"padded, another kind":       {sealedAs(t, v, 7, 5, append([]byte{0, 0, 0, 1, 2}, make([]byte, 59)...)), api.ErrDecode},
		} {
			reads(t, kind+", "+what, c, name, []sibling.Sibling{x.s}, nil, 1, x.want)
			reads(t, kind+", "+what+", behind", c, name, []sibling.Sibling{s, x.s}, []client.Value{want}, 1, x.want)
			reads(t, kind+", "+what+", ahead", c, name, []sibling.Sibling{x.s, s}, []client.Value{want}, 1, x.want)
		}
		moved := sealedAs(t, v, 7, 6, []byte("xxxx"))
		moved.Dot.Number++
		reads(t, kind+", another dot, not padded", c, name, []sibling.Sibling{moved}, nil, 1, api.ErrAuth)
		ok := sealedAs(t, v, 7, 7, append([]byte{0, 0, 0, 3, 1, 'o', 'k'}, make([]byte, 57)...))
		reads(t, kind+", just so", c, name, []sibling.Sibling{ok}, []client.Value{{Dot: at(7, 7), Epoch: 1, Bytes: []byte("ok")}}, 0, api.OK)
	}
}

// P27.1: what is sealed with a past of no bytes at all goes with no Past: neither with nothing, nor with what isn't a context.
func TestReadNoPast(t *testing.T) {
	for kind, v := range both() {
		sealed, e := envelope.Seal(v, name, envelope.Head{Epoch: 1, Counter: 1, Dot: at(4, 1)}, []byte("x"), false)
		if e != api.OK {
			t.Fatal(e)
		}
		body, _ := envelope.Write(sealed)
		for _, p := range []dot.Context{{}, past(at(1, 1)), {Upto: [16]int{-1}}, many(33)} {
			reads(t, kind, made(t, 1, v), name, []sibling.Sibling{{Dot: at(4, 1), Past: p, Body: body}}, nil, 1, api.ErrAuth)
		}
	}
}

// P27.1: the values in the siblings' order, how many others there are, and the first one's error.
func TestReadOrder(t *testing.T) {
	for kind, v := range both() {
		a, b := made(t, 1, v), made(t, 2, v)
		if e := b.Rotate(); e != api.OK {
			t.Fatal(e)
		}
		first, second := wrote(t, a, name, []byte("x"), dot.Context{}), wrote(t, a, name, []byte("y"), past(at(1, 1)))
		third := wrote(t, b, name, []byte("z"), past(at(1, 2)))
		_, gone, _ := b.Write(name, []byte("lost"), true, dot.Context{})
		auth := sibling.Sibling{Dot: at(1, 3), Body: first.Body}
		decode := sibling.Sibling{Dot: at(1, 4)}
		x := client.Value{Dot: at(1, 1), Epoch: 1, Bytes: []byte("x")}
		y := client.Value{Dot: at(1, 2), Epoch: 1, Past: past(at(1, 1)), Bytes: []byte("y")}
		z := client.Value{Dot: at(2, 1), Epoch: 2, Past: past(at(1, 2)), Bytes: []byte("z")}
		none := client.Value{Dot: at(2, 2), Epoch: 2, Deleted: true}
		for _, c := range []*client.Client{a, b} {
			for i, q := range []struct {
				l      []sibling.Sibling
				want   []client.Value
				passed int
				e      api.Errno
			}{
				{[]sibling.Sibling{first, second, third, gone}, []client.Value{x, y, z, none}, 0, api.OK},
				{[]sibling.Sibling{gone, third, second, first}, []client.Value{none, z, y, x}, 0, api.OK},
				{[]sibling.Sibling{first, first, third, first}, []client.Value{x, x, z, x}, 0, api.OK},
				{[]sibling.Sibling{auth, decode}, nil, 2, api.ErrAuth},
				{[]sibling.Sibling{decode, auth, auth}, nil, 3, api.ErrDecode},
				{[]sibling.Sibling{second, auth, third, decode, first, auth, gone}, []client.Value{y, z, x, none}, 3, api.ErrAuth},
				{[]sibling.Sibling{second, decode, third, decode, first, auth}, []client.Value{y, z, x}, 3, api.ErrDecode},
			} {
				reads(t, kind+" "+string(rune('a'+i)), c, name, q.l, q.want, q.passed, q.e)
			}
		}
		var all []sibling.Sibling
		for range 100 {
			all = append(all, auth, decode)
		}
		reads(t, kind+", many", a, name, all, nil, 200, api.ErrAuth)
	}
}
