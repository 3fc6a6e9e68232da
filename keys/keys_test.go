package keys_test

import (
	"bytes"
	"crypto/hkdf"
	"crypto/hmac"
	"crypto/sha256"
	"encoding/binary"
	"encoding/hex"
	"math"
	"slices"
	"testing"

	"casket/api"
	"casket/keys"
)

// roomy: b with spare room behind it, and a look whether any of it was changed.
func roomy(b []byte) ([]byte, func() bool) {
	whole := append(slices.Clone(b), bytes.Repeat([]byte{0xee}, 80)...)
	was := slices.Clone(whole)
	return whole[:len(b)], func() bool { return !bytes.Equal(whole, was) }
}

// text: so many bytes, each unlike its neighbours.
func text(first byte, n int) []byte {
	out := make([]byte, n)
	for i := range out {
		out[i] = first + byte(37*i+i>>8)
	}
	return out
}

var someMasters = [][32]byte{{}, {1}, {31: 1}, [32]byte(text(3, 32)), [32]byte(bytes.Repeat([]byte{0xff}, 32))}

// expanded: the library's 32 bytes out of a master, for a use.
func expanded(t *testing.T, master [32]byte, use string) []byte {
	t.Helper()
	out, err := hkdf.Expand(sha256.New, master[:], use, 32)
	if err != nil {
		t.Fatal(err)
	}
	return out
}

// blindOf: a name's blind, by the library.
func blindOf(t *testing.T, master [32]byte, name []byte) api.Blind {
	t.Helper()
	h := hmac.New(sha256.New, expanded(t, master, "blind"))
	h.Write(name)
	return api.Blind(h.Sum(nil))
}

// sealOf: an epoch's key, by the library.
func sealOf(t *testing.T, master [32]byte, epoch int) [32]byte {
	t.Helper()
	return [32]byte(expanded(t, master, string(binary.BigEndian.AppendUint64([]byte("seal"), uint64(epoch)))))
}

// P11.1: keys that were reckoned by another program, of the master 00 to 1f.
func TestKnown(t *testing.T) {
	var master [32]byte
	for i := range master {
		master[i] = byte(i)
	}
	if b, e := keys.Blind(master, []byte("name")); hex.EncodeToString(b[:]) != "3e6054a8e12072b893c7fc236f4c78957186754cdc771df3eaa34092515e842d" || e != api.OK {
		t.Errorf("%x, error %d", b, e)
	}
	if k, e := keys.Seal(master, 1); hex.EncodeToString(k[:]) != "a5692a6e9febf96d9eff6044dddc450bb383a692fe17a433dfbba9222226f148" || e != api.OK {
		t.Errorf("%x, error %d", k, e)
	}
	if k, e := keys.Seal(master, 1<<20); hex.EncodeToString(k[:]) != "239bee67d731dadb73a0fd2aaf3e9842e5e8b7c5a04577a1a01bee1189583042" || e != api.OK {
		t.Errorf("%x, error %d", k, e)
	}
}

// P11.1: the blind of names, of one byte to 64.
func TestBlind(t *testing.T) {
	for _, master := range someMasters {
		for n := 1; n <= 64; n++ {
			for _, name := range [][]byte{text(byte(n), n), make([]byte, n), bytes.Repeat([]byte{0xff}, n)} {
				if b, e := keys.Blind(master, name); b != blindOf(t, master, name) || e != api.OK {
					t.Errorf("%x: %x, error %d", name, b, e)
				}
			}
		}
	}
}

// P11.1: what is no name has none.
func TestNoName(t *testing.T) {
	for _, name := range [][]byte{nil, {}, text(1, 65), text(1, 66), make([]byte, 128), make([]byte, 1<<20)} {
		if b, e := keys.Blind([32]byte{1}, name); b != (api.Blind{}) || e != api.ErrArg {
			t.Errorf("%d bytes: %x, error %d", len(name), b, e)
		}
	}
}

// P11.1: the keys of epochs.
func TestSeal(t *testing.T) {
	for _, master := range someMasters {
		for _, epoch := range []int{1, 2, 3, 255, 256, 257, 65535, 65536, 1<<20 - 1, 1 << 20} {
			if k, e := keys.Seal(master, epoch); k != sealOf(t, master, epoch) || e != api.OK {
				t.Errorf("epoch %d: %x, error %d", epoch, k, e)
			}
		}
	}
}

// P11.1: what is no epoch has none.
func TestNoEpoch(t *testing.T) {
	for _, epoch := range []int{math.MinInt, -1 << 32, -1, 0, 1<<20 + 1, 1 << 21, 1 << 32, 1<<32 + 1, math.MaxInt} {
		if k, e := keys.Seal([32]byte{1}, epoch); k != [32]byte{} || e != api.ErrArg {
			t.Errorf("epoch %d: %x, error %d", epoch, k, e)
		}
	}
}

var someCounters = []int{1, 2, 3, 127, 128, 255, 256, 257, 258, 1 << 16, 1<<32 - 1, 1 << 32, 1<<32 + 1, 1 << 33, 1<<40 + 5, 1 << 56, 1<<62 - 1, 1 << 62}

// P11.1: nonces, the chapter's example among them.
func TestNonce(t *testing.T) {
	if n, e := keys.Nonce(1, 2); n != [12]byte{0, 0, 0, 1, 0, 0, 0, 0, 0, 0, 0, 2} || e != api.OK {
		t.Errorf("%x, error %d", n, e)
	}
	for client := 1; client <= 16; client++ {
		for _, counter := range someCounters {
			want := binary.BigEndian.AppendUint64(binary.BigEndian.AppendUint32(nil, uint32(client)), uint64(counter))
			if n, e := keys.Nonce(client, counter); !bytes.Equal(n[:], want) || e != api.OK {
				t.Errorf("client %d, counter %d: %x, error %d", client, counter, n, e)
			}
		}
	}
}

// P11.1: what is no client, or no counter, has none.
func TestNoNonce(t *testing.T) {
	clients := []int{math.MinInt, -1 << 32, -1, 0, 17, 18, 256, 1 << 32, 1<<32 + 1, math.MaxInt}
	counters := []int{math.MinInt, -1, 0, 1<<62 + 1, 1<<62 + 2, math.MaxInt}
	none := func(client, counter int) {
		if n, e := keys.Nonce(client, counter); n != [12]byte{} || e != api.ErrArg {
			t.Errorf("client %d, counter %d: %x, error %d", client, counter, n, e)
		}
	}
	for _, client := range clients {
		for _, counter := range append(counters, someCounters...) {
			none(client, counter)
		}
	}
	for _, counter := range counters {
		none(1, counter)
		none(16, counter)
	}
}

// P11.2: of unlike clients or counters, nonces are unlike: each bit of a counter is told, and each client.
func TestUnlike(t *testing.T) {
	counters := slices.Clone(someCounters)
	for i := range 62 {
		counters = append(counters, 1<<i, 1<<i+1, 1<<62-1<<i)
	}
	for n := 1; n <= 2000; n++ {
		counters = append(counters, n, n<<8, n<<32)
	}
	slices.Sort(counters)
	counters = slices.Compact(counters)
	type sealing struct{ client, counter int }
	was := map[[12]byte]sealing{}
	for client := 1; client <= 16; client++ {
		for _, counter := range counters {
			this := sealing{client, counter}
			n, e := keys.Nonce(client, counter)
			if other, is := was[n]; is || e != api.OK {
				t.Errorf("%v and %v: %x, error %d", this, other, n, e)
			}
			was[n] = this
		}
	}
}

// P11.3: a name that is handed in isn't changed, its spare room neither, and it isn't kept.
func TestUnchanged(t *testing.T) {
	for n := range 70 {
		name, changed := roomy(text(3, n))
		first, _ := keys.Blind([32]byte{1}, name)
		if changed() {
			t.Errorf("a name of %d bytes was changed", n)
		}
		if n < 1 || n > 64 {
			continue
		}
		name[0] ^= 0x55
		if second, _ := keys.Blind([32]byte{1}, name); second != blindOf(t, [32]byte{1}, name) || first != blindOf(t, [32]byte{1}, text(3, n)) {
			t.Errorf("a name of %d bytes was kept", n)
		}
	}
}
