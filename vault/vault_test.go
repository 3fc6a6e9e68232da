package vault_test

import (
	"bytes"
	"encoding/binary"
	"math"
	"slices"
	"testing"

	"casket/aead"
	"casket/api"
	"casket/chacha"
	"casket/keys"
	"casket/vault"
)

var (
	someLengths = []int{0, 1, 15, 16, 17, 40, 55, 56, 57, 63, 64, 65, 120, 200, 1000}
	noNames     = [][]byte{nil, {}, make([]byte, 65), make([]byte, 1000)}
	secret      = [32]byte(text(0x21, 32))
)

// roomy: b with spare room behind it, and a look whether any of it was changed.
func roomy(b []byte) ([]byte, func() bool) {
	whole := append(slices.Clone(b), bytes.Repeat([]byte{0xee}, 80)...)
	was := slices.Clone(whole)
	return whole[:len(b)], func() bool { return !bytes.Equal(whole, was) }
}

// text: so many bytes, each unlike its neighbours.
func text(first byte, n int) []byte {
	out := make([]byte, n)
	for i := range out {
		out[i] = first + byte(37*i+i>>8)
	}
	return out
}

// spoil writes over bytes, and behind them.
func spoil(b []byte) {
	for i := range b {
		b[i] ^= 0x55
	}
	_ = append(b, 1, 2, 3)
}

// bitChanged: bytes with just one bit changed.
func bitChanged(b []byte, at int) []byte {
	out := slices.Clone(b)
	out[at/8] ^= 1 << (at % 8)
	return out
}

// draw: as the chapter tells it.
func draw(seed [32]byte, kind uint32, n, size int) []byte {
	ordinal := binary.BigEndian.AppendUint64(nil, uint64(n))
	nonce := append(binary.BigEndian.AppendUint32(nil, kind), ordinal...)
	return append(ordinal, chacha.Stream(seed, 0, [12]byte(nonce), make([]byte, size-8))...)
}

// both: a new vault of each kind, of the same secret.
func both() map[string]*vault.Vault {
	return map[string]*vault.Vault{"real": vault.Real(secret), "ideal": vault.Ideal(secret)}
}

func sealed(t *testing.T, v *vault.Vault, epoch, client, counter int, with, b []byte) []byte {
	t.Helper()
	out, e := v.Seal(epoch, client, counter, with, b)
	if e != api.OK {
		t.Fatalf("Seal(%d, %d, %d): error %d", epoch, client, counter, e)
	}
	return out
}

func blinded(t *testing.T, v *vault.Vault, name string) api.Blind {
	t.Helper()
	out, e := v.Blind([]byte(name))
	if e != api.OK {
		t.Fatalf("Blind of %q: error %d", name, e)
	}
	return out
}

// opened: these bytes are what was sealed.
func opened(t *testing.T, what string, v *vault.Vault, epoch, client, counter int, with, b, want []byte) {
	t.Helper()
	if got, e := v.Open(epoch, client, counter, with, b); !bytes.Equal(got, want) || e != api.OK {
		t.Errorf("%s: %x, error %d, want %x", what, got, e, want)
	}
}

// refused: an error, and no bytes beside it.
func refused(t *testing.T, what string, want api.Errno, v *vault.Vault, epoch, client, counter int, with, b []byte) {
	t.Helper()
	if got, e := v.Open(epoch, client, counter, with, b); len(got) != 0 || e != want {
		t.Errorf("%s: %d bytes, error %d, want %d", what, len(got), e, want)
	}
}

// unsealed: an error, no bytes beside it, and no sealing more.
func unsealed(t *testing.T, what string, want api.Errno, v *vault.Vault, epoch, client, counter int) {
	t.Helper()
	was := v.Count()
	if got, e := v.Seal(epoch, client, counter, []byte("with"), []byte("text")); len(got) != 0 || e != want || v.Count() != was {
		t.Errorf("%s: %d bytes, error %d, want %d, %d sealings, were %d", what, len(got), e, want, v.Count(), was)
	}
}

// P12.1: the chapter's example: an ideal vault's first name.
func TestExample(t *testing.T) {
	b := blinded(t, vault.Ideal(secret), "name")
	if !bytes.Equal(b[:8], []byte{0, 0, 0, 0, 0, 0, 0, 1}) {
		t.Errorf("%x", b)
	}
}

// P12.1: a real vault blinds as its keys do, however often, and in whatever order.
func TestRealBlind(t *testing.T) {
	v := vault.Real(secret)
	for _, n := range []int{1, 64, 2, 63, 1, 64, 20} {
		want, _ := keys.Blind(secret, text(byte(n), n))
		if b, e := v.Blind(text(byte(n), n)); b != want || e != api.OK {
			t.Errorf("%d bytes: %x, error %d, want %x", n, b, e, want)
		}
	}
}

// P12.1: an ideal vault draws for each new name; one that was asked for ahead keeps its ordinal.
func TestIdealBlind(t *testing.T) {
	for _, seed := range [][32]byte{{}, secret} {
		v := vault.Ideal(seed)
		ordinals := map[string]int{}
		for _, name := range []string{"a", "b", "a", "c", "b", "\x00", "\x00\x00", "A", "a", "a ", "\x00", string(text(1, 64)), string(text(1, 63)), "c", string(text(1, 64))} {
			if ordinals[name] == 0 {
				ordinals[name] = len(ordinals) + 1
			}
			if b := blinded(t, v, name); !bytes.Equal(b[:], draw(seed, 0, ordinals[name], 32)) {
				t.Errorf("%q: %x, want the draw %d", name, b, ordinals[name])
			}
		}
	}
}

// P12.1: many names, each of an ordinal of its own, that is told in eight bytes.
func TestManyNames(t *testing.T) {
	v := vault.Ideal(secret)
	for round := range 2 {
		for n := 1; n <= 700; n++ {
			b := blinded(t, v, string(binary.BigEndian.AppendUint16(nil, uint16(n))))
			if !bytes.Equal(b[:], draw(secret, 0, n, 32)) {
				t.Errorf("round %d, name %d: %x", round, n, b)
			}
		}
	}
}

// P12.1: what is no name has no blind, and no ordinal.
func TestNoName(t *testing.T) {
	for kind, v := range both() {
		for _, name := range noNames {
			if b, e := v.Blind(name); b != (api.Blind{}) || e != api.ErrArg {
				t.Errorf("%s, %d bytes: %x, error %d", kind, len(name), b, e)
			}
		}
	}
	v := vault.Ideal(secret)
	blinded(t, v, "a")
	for _, name := range noNames {
		v.Blind(name)
	}
	if b := blinded(t, v, "b"); !bytes.Equal(b[:], draw(secret, 0, 2, 32)) {
		t.Errorf("behind what is no name: %x", b)
	}
}

// P12.1: a real vault seals and opens as aead does, by its keys.
func TestRealSeal(t *testing.T) {
	v := vault.Real(secret)
	counter := 0
	for _, epoch := range []int{1, 2, 1 << 20} {
		for _, client := range []int{1, 2, 16} {
			for _, n := range someLengths {
				counter++
				with, b := text(byte(n), n%50), text(byte(counter), n)
				key, _ := keys.Seal(secret, epoch)
				nonce, _ := keys.Nonce(client, counter)
				want := aead.Seal(key, nonce, with, b)
				if got := sealed(t, v, epoch, client, counter, with, b); !bytes.Equal(got, want) {
					t.Errorf("epoch %d, client %d, counter %d: %x, want %x", epoch, client, counter, got, want)
				}
				opened(t, "sealed here", v, epoch, client, counter, with, want, b)
				opened(t, "sealed elsewhere", vault.Real(secret), epoch, client, counter, with, want, b)
			}
		}
	}
}

// P12.1: an ideal vault seals by draws, as long as the bytes and sixteen, whatever these are, and opens by its table.
func TestIdealSeal(t *testing.T) {
	v := vault.Ideal(secret)
	for i, n := range slices.Concat(someLengths, someLengths) {
		with, b := text(byte(i), i), text(byte(i), n)
		got := sealed(t, v, i+1, i%16+1, 1000-i, with, b)
		if want := draw(secret, 1, i+1, n+16); !bytes.Equal(got, want) {
			t.Errorf("sealing %d, of %d bytes: %x, want %x", i+1, n, got, want)
		}
		opened(t, "at once", v, i+1, i%16+1, 1000-i, with, got, b)
	}
	for i, n := range slices.Concat(someLengths, someLengths) {
		opened(t, "in the end", v, i+1, i%16+1, 1000-i, text(byte(i), i), draw(secret, 1, i+1, n+16), text(byte(i), n))
	}
}

// P12.1: names and sealings have ordinals of their own.
func TestOrdinalsApart(t *testing.T) {
	v := vault.Ideal(secret)
	for n := 1; n <= 20; n++ {
		b := blinded(t, v, string(rune('a'+n)))
		if got := sealed(t, v, 1, 1, n, nil, make([]byte, 16)); !bytes.Equal(b[:], draw(secret, 0, n, 32)) || !bytes.Equal(got, draw(secret, 1, n, 32)) {
			t.Errorf("%d: %x, %x", n, b, got)
		}
	}
}

// P12.1: no bytes, nil or empty, are one.
func TestNone(t *testing.T) {
	for kind, v := range both() {
		for i, none := range [][]byte{nil, {}} {
			got := sealed(t, v, 1, 1, i+1, none, none)
			if len(got) != 16 {
				t.Errorf("%s: %x", kind, got)
			}
			opened(t, kind, v, 1, 1, i+1, nil, got, nil)
			opened(t, kind, v, 1, 1, i+1, []byte{}, got, nil)
		}
	}
}

// noSealings: epochs, clients and counters of which one at least is none.
func noSealings() [][3]int {
	var out [][3]int
	epochs := []int{math.MinInt, -1, 0, 1<<20 + 1, math.MaxInt}
	clients := []int{math.MinInt, -1, 0, 17, 1<<32 + 1, math.MaxInt}
	counters := []int{math.MinInt, -1, 0, 1<<62 + 1, math.MaxInt}
	for _, epoch := range append(epochs, 1, 1<<20) {
		for _, client := range append(clients, 1, 16) {
			for _, counter := range append(counters, 1, 1<<62) {
				if slices.Contains(epochs, epoch) || slices.Contains(clients, client) || slices.Contains(counters, counter) {
					out = append(out, [3]int{epoch, client, counter})
				}
			}
		}
	}
	return out
}

// P12.1: by what is no epoch, no client or no counter nothing is sealed and nothing opened, whatever the bytes are.
func TestNoSealings(t *testing.T) {
	for kind, v := range both() {
		was := sealed(t, v, 1, 1, 1, nil, []byte("text"))
		for _, x := range noSealings() {
			unsealed(t, kind, api.ErrArg, v, x[0], x[1], x[2])
			refused(t, kind, api.ErrArg, v, x[0], x[1], x[2], nil, was)
			refused(t, kind, api.ErrArg, v, x[0], x[1], x[2], nil, was[:15])
		}
		for _, counter := range []int{2, 1 << 62} {
			opened(t, kind, v, 1<<20, 16, counter, nil, sealed(t, v, 1<<20, 16, counter, nil, []byte("more")), []byte("more"))
		}
	}
}

// P12.1: a client's counter serves once, in whatever epoch; ErrArg is told ahead of that, and another client's is another one.
func TestSpent(t *testing.T) {
	for kind, v := range both() {
		first := sealed(t, v, 1, 2, 3, []byte("with"), []byte("text"))
		for _, epoch := range []int{1, 2, 1 << 20} {
			unsealed(t, kind, api.ErrSpent, v, epoch, 2, 3)
		}
		unsealed(t, kind, api.ErrArg, v, 0, 2, 3)
		for _, x := range [][2]int{{3, 2}, {3, 3}, {2, 2}, {2, 4}, {1, 3}, {2, 1<<32 + 3}} {
			sealed(t, v, 1, x[0], x[1], []byte("with"), []byte("text"))
			unsealed(t, kind, api.ErrSpent, v, 1, x[0], x[1])
		}
		opened(t, kind, v, 1, 2, 3, []byte("with"), first, []byte("text"))
	}
}

// P12.1: one vault's counters are not another's.
func TestSpentElsewhere(t *testing.T) {
	for kind, v := range both() {
		sealed(t, v, 1, 1, 1, nil, nil)
		for _, other := range both() {
			if _, e := other.Seal(1, 1, 1, nil, nil); e != api.OK {
				t.Errorf("%s: error %d", kind, e)
			}
		}
	}
}

// P12.1: a call that refuses has changed nothing: no sealing is counted, no ordinal is used up, no counter spent.
func TestRefusedChangesNothing(t *testing.T) {
	v := vault.Ideal(secret)
	sealed(t, v, 1, 1, 1, nil, []byte("text"))
	for _, x := range noSealings() {
		v.Seal(x[0], x[1], x[2], nil, []byte("text"))
		v.Open(x[0], x[1], x[2], nil, []byte("text"))
	}
	v.Seal(1, 1, 1, nil, []byte("text"))
	v.Open(1, 1, 2, nil, make([]byte, 20))
	v.Open(1, 1, 2, nil, nil)
	if got := sealed(t, v, 1, 1, 2, nil, []byte("text")); !bytes.Equal(got, draw(secret, 1, 2, 20)) || v.Count() != 2 {
		t.Errorf("%x, %d sealings", got, v.Count())
	}
	r := vault.Real(secret)
	unsealed(t, "no epoch", api.ErrArg, r, 0, 1, 1)
	unsealed(t, "no epoch", api.ErrArg, r, 1<<20+1, 1, 2)
	sealed(t, r, 1, 1, 1, nil, nil)
	sealed(t, r, 1, 1, 2, nil, nil)
}

// P12.1: Count counts sealings alone; Ideal tells the kind.
func TestCount(t *testing.T) {
	for kind, v := range both() {
		for n := range 40 {
			if v.Count() != n || v.Ideal() != (kind == "ideal") {
				t.Errorf("%s: %d sealings, want %d, ideal: %t", kind, v.Count(), n, v.Ideal())
			}
			got := sealed(t, v, 1, n%16+1, n+1, nil, nil)
			v.Open(1, n%16+1, n+1, nil, got)
			v.Open(1, n%16+1, n+2, nil, got)
			v.Blind([]byte{byte(n)})
		}
	}
}

// P12.1: a nil vault; and one that neither Real nor Ideal made, which has no key, is as that.
func TestNil(t *testing.T) {
	for _, v := range []*vault.Vault{nil, {}} {
		if b, e := v.Blind([]byte("name")); b != (api.Blind{}) || e != api.ErrArg {
			t.Errorf("Blind: %x, error %d", b, e)
		}
		unsealed(t, "nil", api.ErrArg, v, 1, 1, 1)
		refused(t, "nil", api.ErrArg, v, 1, 1, 1, nil, make([]byte, 20))
		refused(t, "nil", api.ErrArg, v, 1, 1, 1, nil, nil)
		if v.Ideal() || v.Count() != 0 {
			t.Error("Ideal, Count:", v.Ideal(), v.Count())
		}
	}
}

// P12.1: fewer than sixteen bytes are sealed by nobody.
func TestTooShort(t *testing.T) {
	for kind, v := range both() {
		got := sealed(t, v, 1, 1, 1, nil, []byte("text"))
		for n := range 16 {
			refused(t, kind, api.ErrDecode, v, 1, 1, 1, nil, got[:n])
			refused(t, kind, api.ErrDecode, v, 9, 9, 9, nil, make([]byte, n))
		}
		for n := 16; n < 20; n++ {
			refused(t, kind, api.ErrAuth, v, 1, 1, 1, nil, got[:n])
		}
		refused(t, kind, api.ErrAuth, v, 9, 9, 9, nil, make([]byte, 16))
	}
}

// P12.2, P12.3: what is sealed is opened by what it was sealed with, and by nothing else.
func TestBound(t *testing.T) {
	for kind, v := range both() {
		with, b := text(8, 19), text(9, 37)
		got := sealed(t, v, 5, 6, 7, with, b)
		for _, x := range [][3]int{{4, 6, 7}, {6, 6, 7}, {1 << 20, 6, 7}, {5, 5, 7}, {5, 7, 7}, {5, 16, 7}, {5, 6, 6}, {5, 6, 8}, {5, 6, 1<<32 + 7}, {6, 5, 7}, {5, 7, 6}, {7, 6, 5}} {
			refused(t, kind+", another sealing", api.ErrAuth, v, x[0], x[1], x[2], with, got)
		}
		for at := range 8 * len(with) {
			refused(t, kind+", with", api.ErrAuth, v, 5, 6, 7, bitChanged(with, at), got)
		}
		for at := range 8 * len(got) {
			refused(t, kind+", sealed", api.ErrAuth, v, 5, 6, 7, with, bitChanged(got, at))
		}
		for n := range len(with) {
			refused(t, kind+", fewer with", api.ErrAuth, v, 5, 6, 7, with[:n], got)
			refused(t, kind+", gone over", api.ErrAuth, v, 5, 6, 7, with[:n], slices.Concat(with[n:], got))
			refused(t, kind+", gone over", api.ErrAuth, v, 5, 6, 7, slices.Concat(with, got[:n+1]), got[n+1:])
		}
		refused(t, kind+", more with", api.ErrAuth, v, 5, 6, 7, append(slices.Clone(with), 0), got)
		refused(t, kind+", more sealed", api.ErrAuth, v, 5, 6, 7, with, append(slices.Clone(got), 0))
		opened(t, kind, v, 5, 6, 7, with, got, b)
	}
}

// P12.3: what one sealing answered isn't opened by what another one was bound to.
func TestCrossed(t *testing.T) {
	v := vault.Ideal(secret)
	const many = 12
	var all [many][]byte
	for i := range many {
		all[i] = sealed(t, v, i/6+1, i/3%2+1, i+1, []byte{byte(i % 3)}, text(byte(i), 20))
	}
	for i := range many {
		for j := range many {
			if i == j {
				opened(t, "its own", v, i/6+1, i/3%2+1, i+1, []byte{byte(i % 3)}, all[j], text(byte(i), 20))
			} else {
				refused(t, "another one's", api.ErrAuth, v, i/6+1, i/3%2+1, i+1, []byte{byte(i % 3)}, all[j])
			}
		}
	}
}

// P12.3: an ideal vault opens nothing that it hasn't sealed: not what another one of its seed sealed, nor what keys would have, nor a draw that is still to come.
func TestNotItsOwn(t *testing.T) {
	v, twin := vault.Ideal(secret), vault.Ideal(secret)
	with, b := []byte("with"), []byte("text")
	refused(t, "the next draw", api.ErrAuth, v, 1, 1, 1, with, draw(secret, 1, 1, 20))
	refused(t, "a twin's", api.ErrAuth, v, 1, 1, 1, with, sealed(t, twin, 1, 1, 1, with, b))
	refused(t, "a real one's", api.ErrAuth, v, 1, 1, 1, with, sealed(t, vault.Real(secret), 1, 1, 1, with, b))
	blind := blinded(t, v, "name")
	refused(t, "a blind", api.ErrAuth, v, 1, 1, 1, with, blind[:])
	got := sealed(t, v, 1, 1, 1, with, b)
	refused(t, "for a twin", api.ErrAuth, vault.Ideal(secret), 1, 1, 1, with, got)
	refused(t, "for a real one", api.ErrAuth, vault.Real(secret), 1, 1, 1, with, got)
	opened(t, "its own", v, 1, 1, 1, with, got, b)
}

// P12.3: what an ideal vault answers to Blind and Seal hangs on the order of names and sealings, and on counts of bytes, alone.
func TestTellsNothing(t *testing.T) {
	one, other := vault.Ideal(secret), vault.Ideal(secret)
	for i := range 60 {
		name := i * i % 7 // the same ones anew
		if blinded(t, one, string(rune('a'+name))) != blinded(t, other, string(text(byte(90+name), 1+9*name))) {
			t.Errorf("name %d is told", name)
		}
		n := i * 11 % 90
		a := sealed(t, one, 1, 1, i+1, text(1, i), make([]byte, n))
		b := sealed(t, other, i+2, i%16+1, 5000-i, text(2, 60-i), text(byte(i), n))
		if !bytes.Equal(a, b) {
			t.Errorf("sealing %d: %x, %x", i, a, b)
		}
		one.Open(1, 1, i+1, text(1, i), a)
		other.Open(1, 1, i+1, nil, nil)
		other.Seal(0, 1, 1, nil, nil)
	}
}

// P12.1: a vault whose value is copied is the same vault: no nonce serves twice.
func TestCopied(t *testing.T) {
	for kind, v := range both() {
		twin := *v
		got := sealed(t, v, 1, 1, 1, nil, []byte("text"))
		unsealed(t, kind, api.ErrSpent, &twin, 1, 1, 1)
		opened(t, kind, &twin, 1, 1, 1, nil, got, []byte("text"))
		sealed(t, &twin, 1, 1, 2, nil, nil)
		if v.Count() != 2 || twin.Count() != 2 || blinded(t, v, "a") == blinded(t, &twin, "b") {
			t.Errorf("%s: %d, %d sealings", kind, v.Count(), twin.Count())
		}
	}
}

// P12.4: bytes that are handed in aren't changed, their spare room neither, whether they are taken or refused.
func TestUnchanged(t *testing.T) {
	for kind, v := range both() {
		for i, n := range someLengths {
			name, changedName := roomy(text(1, n))
			with, changedWith := roomy(text(2, n))
			b, changedB := roomy(text(3, n))
			v.Blind(name)
			got, _ := v.Seal(1, 1, i+1, with, b)
			v.Seal(1, 1, i+1, with, b)
			v.Seal(0, 1, i+1, with, b)
			whole, changedWhole := roomy(got)
			v.Open(1, 1, i+1, with, whole)
			v.Open(1, 1, i+2, with, whole)
			v.Open(1, 1, i+1, b, whole[:15])
			if changedName() || changedWith() || changedB() || changedWhole() {
				t.Errorf("%s: %d bytes were changed", kind, n)
			}
		}
	}
}

// P12.4: answers are new memory, and nothing that is handed in is kept: writing into them changes nothing that is told behind it.
func TestNewMemory(t *testing.T) {
	for kind, v := range both() {
		for i, n := range someLengths {
			name, with, b := text(1, i+1), text(2, n), text(3, n)
			blind := blinded(t, v, string(name))
			v.Blind(name)
			got := sealed(t, v, 1, 1, i+1, with, b)
			kept := slices.Clone(got)
			first, _ := v.Open(1, 1, i+1, with, got)
			second, _ := v.Open(1, 1, i+1, with, got)
			for _, x := range [][]byte{name, with, b, got, first} {
				spoil(x)
			}
			if !bytes.Equal(second, text(3, n)) {
				t.Errorf("%s: %d bytes: an answer shares memory", kind, n)
			}
			opened(t, kind, v, 1, 1, i+1, text(2, n), kept, text(3, n))
			if blinded(t, v, string(text(1, i+1))) != blind {
				t.Errorf("%s: a name of %d bytes was kept", kind, i+1)
			}
		}
	}
}

// P1: every call ends without a panic, at all arguments.
func TestAllArguments(t *testing.T) {
	lists := [][]byte{nil, {}, {0}, text(1, 15), text(2, 16), text(3, 17), make([]byte, 64), bytes.Repeat([]byte{0xff}, 300)}
	numbers := []int{math.MinInt, -1, 0, 1, 16, 17, 1 << 20, 1<<20 + 1, 1 << 62, math.MaxInt}
	vaults := []*vault.Vault{nil, {}, vault.Real(secret), vault.Ideal(secret)}
	for _, v := range vaults {
		for _, b := range lists {
			v.Blind(b)
			for _, epoch := range numbers {
				for _, client := range numbers {
					for _, counter := range numbers {
						v.Seal(epoch, client, counter, b, b)
						v.Open(epoch, client, counter, b, b)
					}
				}
			}
		}
		v.Ideal()
		v.Count()
	}
}
