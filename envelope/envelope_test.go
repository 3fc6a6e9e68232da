package envelope_test

import (
	"bytes"
	"encoding/binary"
	"math"
	"slices"
	"testing"

	"casket/api"
	"casket/envelope"
	"casket/pad"
	"casket/vault"
)

var (
	secret  = [32]byte{7, 1, 9}
	noNames = [][]byte{nil, {}, make([]byte, 65), make([]byte, 1000)}
)

// roomy: b with spare room behind it, and a look whether any of it was changed.
func roomy(b []byte) ([]byte, func() bool) {
	whole := append(slices.Clone(b), bytes.Repeat([]byte{0xee}, 80)...)
	was := slices.Clone(whole)
	return whole[:len(b)], func() bool { return !bytes.Equal(whole, was) }
}

// text: so many bytes, each unlike its neighbours.
func text(first byte, n int) []byte {
	out := make([]byte, n)
	for i := range out {
		out[i] = first + byte(37*i+i>>8)
	}
	return out
}

// spoil writes over bytes, and behind them.
func spoil(b []byte) {
	for i := range b {
		b[i] ^= 0x55
	}
	_ = append(b, 1, 2, 3)
}

// bitChanged: bytes with just one bit changed.
func bitChanged(b []byte, at int) []byte {
	out := slices.Clone(b)
	out[at/8] ^= 1 << (at % 8)
	return out
}

// both: a new vault of each kind, of the same secret.
func both() map[string]*vault.Vault {
	return map[string]*vault.Vault{"real": vault.Real(secret), "ideal": vault.Ideal(secret)}
}

// headOf: a head of a client's so-manieth sealing.
func headOf(client, counter int) envelope.Head {
	return envelope.Head{Epoch: 3, Counter: counter, Dot: api.Dot{Client: client, Number: 9}, Past: []byte("past")}
}

// plain: an envelope that nobody sealed.
func plain() envelope.Envelope {
	return envelope.Envelope{Key: api.Blind(text(1, 32)), Head: headOf(2, 5), Sealed: text(2, 20)}
}

// bound: the bytes that an envelope is bound to, as the chapter tells them.
func bound(key api.Blind, h envelope.Head) []byte {
	out := slices.Clone(key[:])
	for _, n := range []int{h.Epoch, h.Counter, h.Dot.Client, h.Dot.Number} {
		out = binary.BigEndian.AppendUint64(out, uint64(n))
	}
	return counted(out, h.Past)
}

// counted: out, and behind it bytes with their count ahead.
func counted(out, b []byte) []byte {
	return append(binary.BigEndian.AppendUint32(out, uint32(len(b))), b...)
}

func same(a, b envelope.Envelope) bool {
	return a.Key == b.Key && a.Head.Epoch == b.Head.Epoch && a.Head.Counter == b.Head.Counter && a.Head.Dot == b.Head.Dot &&
		bytes.Equal(a.Head.Past, b.Head.Past) && bytes.Equal(a.Sealed, b.Sealed)
}

func sealed(t *testing.T, v *vault.Vault, name string, h envelope.Head, value []byte, deleted bool) envelope.Envelope {
	t.Helper()
	e, err := envelope.Seal(v, []byte(name), h, value, deleted)
	if err != api.OK {
		t.Fatalf("Seal of %q, %d bytes: error %d", name, len(value), err)
	}
	return e
}

func written(t *testing.T, e envelope.Envelope) []byte {
	t.Helper()
	b, err := envelope.Write(e)
	if err != api.OK {
		t.Fatalf("Write: error %d", err)
	}
	return b
}

// opened: this value is what was sealed, or that it was deleted.
func opened(t *testing.T, what string, v *vault.Vault, name string, e envelope.Envelope, want []byte, wantGone bool) {
	t.Helper()
	if got, gone, err := envelope.Open(v, []byte(name), e); !bytes.Equal(got, want) || gone != wantGone || err != api.OK {
		t.Errorf("%s: %d bytes, deleted: %t, error %d, want %d bytes, deleted: %t", what, len(got), gone, err, len(want), wantGone)
	}
}

// refused: an error, and nothing beside it.
func refused(t *testing.T, what string, want api.Errno, v *vault.Vault, name []byte, e envelope.Envelope) {
	t.Helper()
	if got, gone, err := envelope.Open(v, name, e); len(got) != 0 || gone || err != want {
		t.Errorf("%s: %d bytes, deleted: %t, error %d, want %d", what, len(got), gone, err, want)
	}
}

// unsealed: an error, nothing beside it, and no sealing more.
func unsealed(t *testing.T, what string, want api.Errno, v *vault.Vault, name []byte, h envelope.Head, value []byte, deleted bool) {
	t.Helper()
	was := v.Count()
	if e, err := envelope.Seal(v, name, h, value, deleted); !same(e, envelope.Envelope{}) || err != want || v.Count() != was {
		t.Errorf("%s: error %d, want %d, %d sealings, were %d", what, err, want, v.Count(), was)
	}
}

// unread: these are no envelope's bytes.
func unread(t *testing.T, what string, b []byte) {
	t.Helper()
	if e, err := envelope.Read(b); !same(e, envelope.Envelope{}) || err != api.ErrDecode {
		t.Errorf("%s: %d bytes: error %d", what, len(b), err)
	}
}

// noHeads: heads of which one thing isn't within its bounds, and what it is.
func noHeads() map[string]envelope.Head {
	out := map[string]envelope.Head{"nothing": {}}
	put := func(what string, change func(h *envelope.Head)) {
		h := headOf(1, 1)
		change(&h)
		out[what] = h
	}
	for what, n := range map[string]int{"least": math.MinInt, "-1": -1, "0": 0, "most": math.MaxInt} {
		put("Epoch "+what, func(h *envelope.Head) { h.Epoch = n })
		put("Counter "+what, func(h *envelope.Head) { h.Counter = n })
		put("Client "+what, func(h *envelope.Head) { h.Dot.Client = n })
		put("Number "+what, func(h *envelope.Head) { h.Dot.Number = n })
	}
	put("Epoch above", func(h *envelope.Head) { h.Epoch = 1<<20 + 1 })
	put("Counter above", func(h *envelope.Head) { h.Counter = 1<<62 + 1 })
	put("Client above", func(h *envelope.Head) { h.Dot.Client = 17 })
	put("Number above", func(h *envelope.Head) { h.Dot.Number = 1<<40 + 1 })
	put("Past above", func(h *envelope.Head) { h.Past = make([]byte, 4097) })
	return out
}

// edgeHeads: heads whose fields are the least, or the most.
func edgeHeads() []envelope.Head {
	var out []envelope.Head
	for _, epoch := range []int{1, 1 << 20} {
		for _, counter := range []int{1, 1 << 62} {
			for _, dot := range []api.Dot{{Client: 1, Number: 1}, {Client: 16, Number: 1}, {Client: 1, Number: 1 << 40}, {Client: 16, Number: 1 << 40}} {
				for _, past := range [][]byte{nil, text(3, 4096)} {
					out = append(out, envelope.Head{Epoch: epoch, Counter: counter, Dot: dot, Past: past})
				}
			}
		}
	}
	return out
}

// noEnvelopes: what isn't one, by its head or by what is sealed.
func noEnvelopes() map[string]envelope.Envelope {
	out := map[string]envelope.Envelope{}
	for what, h := range noHeads() {
		e := plain()
		e.Head = h
		out[what] = e
	}
	for what, n := range map[string]int{"nothing sealed": 0, "one byte sealed": 1, "15 bytes sealed": 15, "8193 bytes sealed": 8193, "many bytes sealed": 100_000} {
		e := plain()
		e.Sealed = text(2, n)
		out[what] = e
	}
	return out
}

// P13.1: what is sealed of a value, in both kinds of vaults, as the chapter tells it.
func TestSeal(t *testing.T) {
	if envelope.MostValue != 3999 {
		t.Errorf("MostValue = %d", envelope.MostValue)
	}
	for kind, v := range both() {
		twin := both()[kind]
		for i, n := range []int{0, 1, 58, 59, 60, 250, 251, 252, 1018, 1019, 1020, 3998, 3999} {
			value, h := text(byte(i), n), headOf(4, i+1)
			e := sealed(t, v, "name", h, value, false)
			key, _ := twin.Blind([]byte("name"))
			padded, _ := pad.Pad(append([]byte{1}, value...))
			want, _ := twin.Seal(3, 4, i+1, bound(key, h), padded)
			if !same(e, envelope.Envelope{Key: key, Head: h, Sealed: want}) {
				t.Errorf("%s: %d bytes: %x", kind, n, e)
			}
		}
	}
}

// P13.1: what is sealed of a value that was deleted: the value isn't looked at, however long it is.
func TestSealDeleted(t *testing.T) {
	for kind, v := range both() {
		twin := both()[kind]
		for i, value := range [][]byte{nil, {}, {1}, text(1, 3999), text(1, 4000), text(1, 10_000)} {
			h := headOf(4, i+1)
			e := sealed(t, v, "name", h, value, true)
			key, _ := twin.Blind([]byte("name"))
			padded, _ := pad.Pad([]byte{0})
			want, _ := twin.Seal(3, 4, i+1, bound(key, h), padded)
			if !same(e, envelope.Envelope{Key: key, Head: h, Sealed: want}) {
				t.Errorf("%s: %d: %x", kind, i, e)
			}
			opened(t, kind, v, "name", e, nil, true)
		}
	}
}

// P13.1, P13.2: heads at the edges, and names of one byte to 64, are sealed, written, read and opened.
func TestEdges(t *testing.T) {
	for _, kind := range []string{"real", "ideal"} {
		for i, h := range edgeHeads() {
			v, name := both()[kind], string(text(5, []int{1, 2, 63, 64}[i%4]))
			e := sealed(t, v, name, h, text(9, 3*i), false)
			opened(t, kind, v, name, e, text(9, 3*i), false)
			if got, err := envelope.Read(written(t, e)); !same(got, e) || err != api.OK {
				t.Errorf("%s: head %d: error %d", kind, i, err)
			}
		}
	}
}

// P13.1: by what is no vault, no name or no head nothing is sealed; ErrArg is told ahead of ErrBig.
func TestSealErrArg(t *testing.T) {
	for kind, v := range both() {
		for _, value := range [][]byte{nil, []byte("value"), make([]byte, 4000)} {
			for _, deleted := range []bool{false, true} {
				unsealed(t, "nil", api.ErrArg, nil, []byte("name"), headOf(1, 1), value, deleted)
				for _, name := range noNames {
					unsealed(t, kind, api.ErrArg, v, name, headOf(1, 1), value, deleted)
				}
				for what, h := range noHeads() {
					unsealed(t, kind+", "+what, api.ErrArg, v, []byte("name"), h, value, deleted)
				}
			}
		}
		unsealed(t, "no vault", api.ErrArg, &vault.Vault{}, []byte("name"), headOf(1, 1), nil, false)
		sealed(t, v, "name", headOf(1, 1), nil, false)
	}
}

// P13.1: too long a value isn't sealed; ErrBig is told ahead of the vault's ErrSpent, and that by a client's counter.
func TestSealErrBig(t *testing.T) {
	for kind, v := range both() {
		for _, n := range []int{4000, 4001, 4096, 1 << 20} {
			unsealed(t, kind, api.ErrBig, v, []byte("name"), headOf(1, 1), make([]byte, n), false)
		}
		e := sealed(t, v, "name", headOf(1, 1), []byte("value"), false)
		unsealed(t, kind, api.ErrBig, v, []byte("name"), headOf(1, 1), make([]byte, 4000), false)
		other := headOf(1, 1)
		other.Epoch, other.Dot.Number, other.Past = 8, 8, nil
		unsealed(t, kind, api.ErrSpent, v, []byte("name"), headOf(1, 1), []byte("value"), false)
		unsealed(t, kind, api.ErrSpent, v, []byte("another name"), other, nil, true)
		opened(t, kind, v, "name", e, []byte("value"), false)
		sealed(t, v, "name", headOf(1, 2), nil, false)
		sealed(t, v, "name", headOf(2, 1), nil, false)
	}
}

// P13.2: what is sealed is opened again, by its name: all of them, in the end.
func TestOpened(t *testing.T) {
	for kind, v := range both() {
		names := []string{"a", "b", "\x00", "\x00\x00", string(text(1, 64))}
		var all []envelope.Envelope
		for i := range 60 {
			all = append(all, sealed(t, v, names[i%5], headOf(i%16+1, i+1), text(byte(i), i*67), i%7 == 3))
		}
		for i, e := range all {
			if i%7 == 3 {
				opened(t, kind, v, names[i%5], e, nil, true)
			} else {
				opened(t, kind, v, names[i%5], e, text(byte(i), i*67), false)
			}
		}
	}
}

// P13.2: a value that looks like what was deleted, or like nothing, is a value.
func TestOpenedAsWritten(t *testing.T) {
	for kind, v := range both() {
		for i, value := range [][]byte{nil, {}, {0}, {1}, {0, 0}, {1, 0}, make([]byte, 59), make([]byte, 60), make([]byte, 3999)} {
			opened(t, kind, v, "name", sealed(t, v, "name", headOf(1, i+1), value, false), value, false)
		}
	}
}

// P13.1: Open's errors, each told ahead of the next one.
func TestOpenErrors(t *testing.T) {
	for kind, v := range both() {
		e := sealed(t, v, "name", headOf(1, 1), []byte("value"), false)
		refused(t, "nil", api.ErrArg, nil, []byte("name"), e)
		refused(t, "no vault", api.ErrArg, &vault.Vault{}, []byte("name"), e)
		for _, name := range noNames {
			refused(t, kind+", no name", api.ErrArg, v, name, e)
		}
		for what, other := range noEnvelopes() {
			refused(t, kind+", "+what, api.ErrDecode, v, []byte("name"), other) // its Key isn't the name's either
			refused(t, kind+", no name, "+what, api.ErrArg, v, nil, other)
			refused(t, "nil, "+what, api.ErrArg, nil, []byte("name"), other)
			other.Key = e.Key
			refused(t, kind+", its key, "+what, api.ErrDecode, v, []byte("name"), other)
		}
		refused(t, kind+", plain", api.ErrAuth, v, []byte("name"), plain())
		other := plain()
		other.Key = e.Key
		for _, n := range []int{16, 17, 8191, 8192} {
			other.Sealed = text(2, n)
			refused(t, kind+", its key", api.ErrAuth, v, []byte("name"), other)
		}
		opened(t, kind, v, "name", e, []byte("value"), false)
	}
}

// P13.1: bytes that the vault sealed, but that aren't padded, or not a value's, are none.
func TestOpenNoValue(t *testing.T) {
	for kind, v := range both() {
		counter := 0
		try := func(what string, padded []byte, want api.Errno) {
			t.Helper()
			counter++
			key, _ := v.Blind([]byte("name"))
			h := headOf(1, counter)
			b, _ := v.Seal(3, 1, counter, bound(key, h), padded)
			if want == api.OK {
				opened(t, kind+", "+what, v, "name", envelope.Envelope{Key: key, Head: h, Sealed: b}, padded[5:4+padded[3]], padded[4] == 0)
			} else {
				refused(t, kind+", "+what, want, v, []byte("name"), envelope.Envelope{Key: key, Head: h, Sealed: b})
			}
		}
		for _, b := range [][]byte{nil, {0, 0}, {0, 1}, {0, 'x', 'y'}, {2}, {2, 'x'}, {0x81, 'x'}, {0xff}} {
			padded, _ := pad.Pad(b)
			try("not a value", padded, api.ErrDecode)
		}
		for _, b := range [][]byte{{0}, {1}, {1, 'x'}, {1, 0, 2}} {
			padded, _ := pad.Pad(b)
			try("a value", padded, api.OK)
			for _, wrong := range [][]byte{b, padded[:63], append(slices.Clone(padded), 0), bitChanged(padded, 8*63), append(slices.Clone(padded), make([]byte, 192)...)} {
				try("not padded", wrong, api.ErrDecode)
			}
		}
		for _, n := range []int{0, 1, 63, 64, 65, 8176} {
			try("noughts", make([]byte, n), api.ErrDecode)
		}
	}
}

// P13.3: with anything changed that it is bound to, or any bit of what is sealed, an envelope is refused.
func TestBound(t *testing.T) {
	for kind, v := range both() {
		h := headOf(2, 5)
		e := sealed(t, v, "name", h, []byte("value"), false)
		change := func(what string, change func(h *envelope.Head)) {
			other := e
			change(&other.Head)
			refused(t, kind+", "+what, api.ErrAuth, v, []byte("name"), other)
		}
		for _, n := range []int{-2, -1, 1, 2, 100} {
			change("epoch", func(h *envelope.Head) { h.Epoch = max(1, h.Epoch+n) })
			change("counter", func(h *envelope.Head) { h.Counter += n })
			change("number", func(h *envelope.Head) { h.Dot.Number += n })
		}
		change("the last epoch", func(h *envelope.Head) { h.Epoch = 1 << 20 })
		change("the last counter", func(h *envelope.Head) { h.Counter = 1 << 62 })
		change("the last number", func(h *envelope.Head) { h.Dot.Number = 1 << 40 })
		for client := 1; client <= 16; client++ {
			if client != 2 {
				change("client", func(h *envelope.Head) { h.Dot.Client = client })
			}
		}
		change("counter and number", func(h *envelope.Head) { h.Counter, h.Dot.Number = h.Dot.Number, h.Counter })
		for _, past := range [][]byte{nil, []byte("pas"), []byte("past\x00"), []byte("ast"), make([]byte, 4), make([]byte, 4096)} {
			change("past", func(h *envelope.Head) { h.Past = past })
		}
		for at := range 8 * 4 {
			change("past", func(h *envelope.Head) { h.Past = bitChanged(h.Past, at) })
		}
		for at := range 8 * 32 {
			other := e
			other.Key = api.Blind(bitChanged(other.Key[:], at))
			refused(t, kind+", key", api.ErrAuth, v, []byte("name"), other)
		}
		for at := range 8 * len(e.Sealed) {
			other := e
			other.Sealed = bitChanged(e.Sealed, at)
			refused(t, kind+", sealed", api.ErrAuth, v, []byte("name"), other)
		}
		for _, b := range [][]byte{e.Sealed[1:], e.Sealed[:len(e.Sealed)-1], append(slices.Clone(e.Sealed), 0)} {
			other := e
			other.Sealed = b
			refused(t, kind+", another count", api.ErrAuth, v, []byte("name"), other)
		}
		opened(t, kind, v, "name", e, []byte("value"), false)
	}
}

// P13.3: by another name it is refused, also with that name's key.
func TestOtherName(t *testing.T) {
	for kind, v := range both() {
		e := sealed(t, v, "name", headOf(2, 5), []byte("value"), false)
		for _, name := range []string{"n", "nam", "namd", "name ", "name\x00", "Name", string(text(1, 64))} {
			refused(t, kind+", another name", api.ErrAuth, v, []byte(name), e)
			other := e
			other.Key, _ = v.Blind([]byte(name))
			refused(t, kind+", with its key", api.ErrAuth, v, []byte(name), other)
			refused(t, kind+", its own name, with its key", api.ErrAuth, v, []byte("name"), other)
		}
		opened(t, kind, v, "name", e, []byte("value"), false)
	}
}

// P13.3: what was sealed of one head or name isn't opened with another one's.
func TestCrossed(t *testing.T) {
	v := vault.Ideal(secret)
	names := []string{"a", "b"}
	var all []envelope.Envelope
	for i := range 8 {
		all = append(all, sealed(t, v, names[i%2], headOf(i/2%2+1, i+1), text(byte(i), 5), false))
	}
	for i, one := range all {
		for j, other := range all {
			if i != j {
				refused(t, "another one's bytes", api.ErrAuth, v, []byte(names[i%2]), envelope.Envelope{Key: one.Key, Head: one.Head, Sealed: other.Sealed})
			}
		}
		opened(t, "its own", v, names[i%2], one, text(byte(i), 5), false)
	}
}

// P13.3: what another vault of the same secret sealed isn't opened.
func TestNotItsOwn(t *testing.T) {
	v := vault.Ideal(secret)
	for kind, other := range both() {
		e := sealed(t, other, "name", headOf(1, 1), []byte("value"), false)
		refused(t, kind, api.ErrAuth, v, []byte("name"), e)
		e.Key, _ = v.Blind([]byte("name"))
		refused(t, kind+", with its key", api.ErrAuth, v, []byte("name"), e)
	}
}

// ordinal: of the name that an ideal vault is asked for now.
func ordinal(v *vault.Vault, name string) uint64 {
	key, _ := v.Blind([]byte(name))
	return binary.BigEndian.Uint64(key[:8])
}

// P13.1: a name has been asked for when its key was needed, also by what was refused; what is refused ahead of that changes nothing.
func TestNamesAskedFor(t *testing.T) {
	v := vault.Ideal(secret)
	e := sealed(t, v, "first", headOf(1, 1), nil, false)
	refused(t, "another name", api.ErrAuth, v, []byte("second"), e)
	unsealed(t, "spent", api.ErrSpent, v, []byte("third"), headOf(1, 1), nil, false)
	if n := ordinal(v, "fourth"); n != 4 || ordinal(v, "second") != 2 || ordinal(v, "third") != 3 {
		t.Errorf("ordinal %d, want 4", n)
	}
	unsealed(t, "no head", api.ErrArg, v, []byte("x"), envelope.Head{}, nil, false)
	unsealed(t, "too long", api.ErrBig, v, []byte("x"), headOf(1, 2), make([]byte, 4000), false)
	refused(t, "no envelope", api.ErrDecode, v, []byte("x"), envelope.Envelope{})
	if n := ordinal(v, "fifth"); n != 5 {
		t.Errorf("ordinal %d, want 5", n)
	}
}

// P13.1: what is written is what an envelope is bound to, and what is sealed; it is read again.
func TestWrite(t *testing.T) {
	for i, h := range append(edgeHeads(), headOf(1, 1)) {
		for _, n := range []int{16, 17, 80, 4112, 8191, 8192} {
			e := envelope.Envelope{Key: api.Blind(text(byte(i), 32)), Head: h, Sealed: text(byte(n), n)}
			b := written(t, e)
			if !bytes.Equal(b, counted(bound(e.Key, h), e.Sealed)) {
				t.Errorf("head %d, %d bytes sealed: %x", i, n, b)
			}
			if got, err := envelope.Read(b); !same(got, e) || err != api.OK {
				t.Errorf("head %d, %d bytes sealed: error %d", i, n, err)
			}
		}
	}
}

// P13.1: what isn't an envelope is neither written nor read.
func TestNoEnvelope(t *testing.T) {
	for what, e := range noEnvelopes() {
		if b, err := envelope.Write(e); len(b) != 0 || err != api.ErrDecode {
			t.Errorf("%s: %d bytes, error %d", what, len(b), err)
		}
		unread(t, what, counted(bound(e.Key, e.Head), e.Sealed))
	}
}

// P13.1: no other bytes are read: fewer, more, or with a count that isn't right.
func TestReadOthers(t *testing.T) {
	for _, e := range []envelope.Envelope{plain(), {Head: headOf(1, 1), Sealed: make([]byte, 16)}} {
		b := written(t, e)
		for n := range b {
			unread(t, "fewer", b[:n])
			unread(t, "fewer ahead", b[n+1:])
		}
		for n := 1; n < 40; n++ {
			unread(t, "more", append(slices.Clone(b), make([]byte, n)...))
		}
		pastAt, sealedAt := 32+4*8, 32+4*8+4+len(e.Head.Past)
		for _, at := range []int{pastAt, sealedAt} {
			for _, n := range []uint32{0, 1, 15, 1 << 16, 1<<32 - 1} {
				other := slices.Clone(b)
				binary.BigEndian.PutUint32(other[at:], n)
				unread(t, "another count", other)
			}
		}
	}
	for _, b := range [][]byte{nil, {}, make([]byte, 84), make([]byte, 1000), bytes.Repeat([]byte{0xff}, 1000)} {
		unread(t, "no envelope", b)
	}
}

// P13.1: whatever bit of an envelope's bytes is changed: they are another envelope's bytes, or none.
func TestReadBits(t *testing.T) {
	e := plain()
	b := written(t, e)
	for at := range 8 * len(b) {
		other := bitChanged(b, at)
		got, err := envelope.Read(other)
		if err == api.OK && (same(got, e) || !bytes.Equal(written(t, got), other)) {
			t.Errorf("bit %d: another one's bytes", at)
		}
		if err != api.OK {
			unread(t, "a bit changed", other)
		}
		if at < 8*32 && err != api.OK {
			t.Errorf("bit %d, of the key: error %d", at, err)
		}
	}
}

// P13.2: an envelope is opened behind being written and read.
func TestOpenedFromBytes(t *testing.T) {
	for kind, v := range both() {
		for i, n := range []int{0, 1, 59, 60, 3999} {
			e, err := envelope.Read(written(t, sealed(t, v, "name", headOf(1, i+1), text(4, n), false)))
			if err != api.OK {
				t.Errorf("%s: error %d", kind, err)
			}
			opened(t, kind, v, "name", e, text(4, n), false)
		}
	}
}

// P13.4: what is handed in isn't changed, its spare room neither, whether it is taken or refused.
func TestUnchanged(t *testing.T) {
	for kind, v := range both() {
		for i, n := range []int{0, 1, 16, 59, 64, 3999, 4000} {
			name, changedName := roomy(text(1, min(n, 65)))
			past, changedPast := roomy(text(2, n))
			value, changedValue := roomy(text(3, n))
			h := headOf(1, i+1)
			h.Past = past
			e, _ := envelope.Seal(v, name, h, value, false)
			envelope.Seal(v, name, h, value, true)
			whole, changedSealed := roomy(e.Sealed)
			e.Sealed, e.Head.Past = whole, past
			envelope.Open(v, name, e)
			envelope.Open(v, []byte("another"), e)
			b, _ := envelope.Write(e)
			in, changedIn := roomy(b)
			envelope.Read(in)
			envelope.Read(value)
			if changedName() || changedPast() || changedValue() || changedSealed() || changedIn() {
				t.Errorf("%s: %d bytes: what was handed in was changed", kind, n)
			}
		}
	}
}

// P13.4: answers are new memory, and nothing that is handed in is kept: writing into them changes nothing that is told behind it.
func TestNewMemory(t *testing.T) {
	for kind, v := range both() {
		for i, n := range []int{1, 16, 59, 60, 300, 3999} {
			name, value, h := text(1, i+1), text(3, n), headOf(1, i+1)
			h.Past = text(2, n)
			e := sealed(t, v, string(name), h, value, false)
			was := envelope.Envelope{Key: e.Key, Head: e.Head, Sealed: slices.Clone(e.Sealed)}
			was.Head.Past = text(2, n)
			spoil(h.Past)
			spoil(value)
			if !same(e, was) {
				t.Errorf("%s: %d bytes: what is sealed shares memory", kind, n)
			}
			b := written(t, e)
			first, _ := envelope.Read(b)
			second, _ := envelope.Read(b)
			one, _, _ := envelope.Open(v, name, second)
			other, _, _ := envelope.Open(v, name, second)
			for _, x := range [][]byte{name, e.Head.Past, e.Sealed, b, first.Head.Past, one} {
				spoil(x)
			}
			if !same(second, was) || !bytes.Equal(other, text(3, n)) {
				t.Errorf("%s: %d bytes: an answer shares memory", kind, n)
			}
			spoil(first.Sealed)
			opened(t, kind, v, string(text(1, i+1)), second, text(3, n), false)
		}
	}
}

// P13.4: no two lists of one answer share memory: what is written behind the one leaves the other as it is.
func TestListsApart(t *testing.T) {
	e, _ := envelope.Read(written(t, plain()))
	_ = append(e.Head.Past, text(1, 200)...)
	if !same(e, plain()) {
		t.Error("Past and Sealed share memory")
	}
}

// P1: every call ends without a panic, at all arguments.
func TestAllArguments(t *testing.T) {
	lists := [][]byte{nil, {}, {0}, text(1, 15), text(2, 16), text(3, 64), make([]byte, 65), bytes.Repeat([]byte{0xff}, 300), make([]byte, 9000)}
	heads := append(edgeHeads(), headOf(1, 1))
	for _, h := range noHeads() {
		heads = append(heads, h)
	}
	for _, v := range []*vault.Vault{nil, {}, vault.Real(secret), vault.Ideal(secret)} {
		for _, b := range lists {
			for _, h := range heads {
				envelope.Seal(v, b, h, b, false)
				envelope.Seal(v, b, h, b, true)
				for _, key := range []api.Blind{{}, {1}} {
					e := envelope.Envelope{Key: key, Head: h, Sealed: b}
					envelope.Open(v, b, e)
					envelope.Open(v, []byte("name"), e)
					envelope.Write(e)
				}
			}
			envelope.Read(b)
		}
	}
}
