package trace_test

import (
	"bytes"
	"encoding/binary"
	"math"
	"math/rand/v2"
	"reflect"
	"slices"
	"testing"

	"casket/api"
	"casket/script"
	"casket/trace"
)

// num: in eight bytes; counted: bytes behind their count in four.
func num(b []byte, n int) []byte { return binary.BigEndian.AppendUint64(b, uint64(n)) }

func counted(b, part []byte) []byte {
	return append(binary.BigEndian.AppendUint32(b, uint32(len(part))), part...)
}

// bytesOf: a script's, as the chapter tells.
func bytesOf(l []script.Step) []byte {
	b := num(nil, len(l))
	for _, x := range l {
		b = append(b, byte(x.Kind), byte(x.Client))
		b = num(num(num(b, x.Handle), x.Box), x.K)
		b = num(counted(counted(b, x.Name), x.Value), len(x.Stay))
		for _, stays := range x.Stay {
			b = append(b, map[bool]byte{true: 1}[stays])
		}
		b = counted(b, x.Raw)
	}
	return b
}

func sameStep(a, b script.Step) bool {
	return a.Kind == b.Kind && a.Client == b.Client && a.Handle == b.Handle && a.Box == b.Box && a.K == b.K &&
		bytes.Equal(a.Name, b.Name) && bytes.Equal(a.Value, b.Value) && slices.Equal(a.Stay, b.Stay) && bytes.Equal(a.Raw, b.Raw)
}

// isWritten: as the chapter tells, and it comes back.
func isWritten(t *testing.T, what string, l []script.Step) {
	t.Helper()
	b, e := trace.Write(l)
	if e != api.OK || !bytes.Equal(b, bytesOf(l)) {
		t.Errorf("%s: error %d, %x", what, e, b[:min(len(b), 300)])
		return
	}
	back, e := trace.Read(b)
	if e != api.OK || !slices.EqualFunc(back, l, sameStep) {
		t.Errorf("%s: back: error %d, %+v", what, e, back)
	}
}

// isRefused: it has no bytes, and what would be its bytes are no script's.
func isRefused(t *testing.T, what string, l []script.Step) {
	t.Helper()
	if b, e := trace.Write(l); e != api.ErrDecode || len(b) != 0 {
		t.Errorf("%s: Write: error %d, %d bytes", what, e, len(b))
	}
}

func noScript(t *testing.T, what string, b []byte) {
	t.Helper()
	if l, e := trace.Read(b); e != api.ErrDecode || len(l) != 0 {
		t.Errorf("%s: Read: error %d, %+v", what, e, l)
	}
}

// full: a step that has all.
func full() script.Step {
	return script.Step{Kind: 1, Client: 2, Handle: 3, Box: 4, K: 5, Name: []byte("name"), Value: []byte("value"), Stay: []bool{true, false}, Raw: []byte("raw")}
}

// P34.1: the chapter's example, and some scripts.
func TestWrite(t *testing.T) {
	for _, l := range [][]script.Step{nil, {}} {
		if b, e := trace.Write(l); e != api.OK || !bytes.Equal(b, make([]byte, 8)) {
			t.Errorf("%x, error %d", b, e)
		}
	}
	want := []byte{0, 0, 0, 0, 0, 0, 0, 1, 1, 2,
		0, 0, 0, 0, 0, 0, 0, 3, 0, 0, 0, 0, 0, 0, 0, 4, 0, 0, 0, 0, 0, 0, 0, 5,
		0, 0, 0, 4, 'n', 'a', 'm', 'e', 0, 0, 0, 5, 'v', 'a', 'l', 'u', 'e',
		0, 0, 0, 0, 0, 0, 0, 2, 1, 0, 0, 0, 0, 3, 'r', 'a', 'w'}
	if b, e := trace.Write([]script.Step{full()}); e != api.OK || !bytes.Equal(b, want) {
		t.Errorf("%x, error %d", b, e)
	}
	isWritten(t, "none", nil)
	isWritten(t, "nothing", []script.Step{{}})
	isWritten(t, "two", []script.Step{full(), {}, full()})
	isWritten(t, "many", make([]script.Step, 1000))
	isRefused(t, "too many", make([]script.Step, 1001))
	noScript(t, "too many", bytesOf(make([]script.Step, 1001)))
}

// P34.1: the bounds, of all numbers and lists.
func TestBounds(t *testing.T) {
	const most = 1 << 62
	type bound struct {
		name  string
		set   func(x *script.Step, n int)
		most  int
		large []int
		wraps bool // what is above doesn't fit into its bytes
	}
	for _, b := range []bound{
		{"Kind", func(x *script.Step, n int) { x.Kind = n }, 255, []int{256, 257, 511, 1 << 32, math.MaxInt, -1, -256, math.MinInt}, true},
		{"Client", func(x *script.Step, n int) { x.Client = n }, 255, []int{256, 257, 511, 1 << 32, math.MaxInt, -1, -256, math.MinInt}, true},
		{"Handle", func(x *script.Step, n int) { x.Handle = n }, most, []int{most + 1, math.MaxInt, -1, math.MinInt}, false},
		{"Box", func(x *script.Step, n int) { x.Box = n }, most, []int{most + 1, math.MaxInt, -1, math.MinInt}, false},
		{"K", func(x *script.Step, n int) { x.K = n }, most, []int{most + 1, math.MaxInt, -1, math.MinInt}, false},
		{"Name", func(x *script.Step, n int) { x.Name = make([]byte, n) }, 255, []int{256, 257, 65536, 1 << 20}, false},
		{"Value", func(x *script.Step, n int) { x.Value = make([]byte, n) }, 65536, []int{65537, 1 << 20}, false},
		{"Stay", func(x *script.Step, n int) { x.Stay = make([]bool, n) }, 1000, []int{1001, 65536}, false},
		{"Raw", func(x *script.Step, n int) { x.Raw = make([]byte, n) }, 65536, []int{65537, 1 << 20}, false},
	} {
		for _, n := range []int{0, 1, b.most - 1, b.most} {
			x, y := full(), script.Step{}
			b.set(&x, n)
			b.set(&y, n)
			isWritten(t, b.name, []script.Step{x, y, x})
		}
		for _, n := range b.large {
			x := full()
			b.set(&x, n)
			for _, l := range [][]script.Step{{x}, {x, {}}, {full(), x}} {
				isRefused(t, b.name, l)
				if !b.wraps {
					noScript(t, b.name, bytesOf(l))
				}
			}
		}
	}
}

// P34.1: of each Stay a byte, 0 or 1.
func TestStayBytes(t *testing.T) {
	x := script.Step{Stay: []bool{false, true, false}}
	at := bytes.Index(bytesOf([]script.Step{x}), []byte{0, 0, 0, 0, 0, 0, 0, 3}) + 8
	for i := range 3 {
		for n := range 256 {
			b := bytesOf([]script.Step{x})
			b[at+i] = byte(n)
			if n > 1 {
				noScript(t, "Stay", b)
				continue
			}
			if l, e := trace.Read(b); e != api.OK || len(l) != 1 || len(l[0].Stay) != 3 || l[0].Stay[i] != (n == 1) {
				t.Errorf("%d: error %d, %+v", n, e, l)
			}
		}
	}
}

// drawnScript: of any steps within the bounds.
func drawnScript(rng *rand.Rand) []script.Step {
	some := func(most int) []byte {
		b := make([]byte, rng.IntN(most))
		for i := range b {
			b[i] = byte(rng.IntN(256))
		}
		return b
	}
	number := func() int { return []int{0, rng.IntN(9), rng.IntN(1 << 62), 1 << 62}[rng.IntN(4)] }
	var l []script.Step
	for range rng.IntN(6) {
		x := script.Step{Kind: rng.IntN(256), Client: rng.IntN(256), Handle: number(), Box: number(), K: number(), Name: some(20), Value: some(20), Raw: some(20)}
		for range rng.IntN(6) {
			x.Stay = append(x.Stay, rng.IntN(2) == 0)
		}
		l = append(l, x)
	}
	return l
}

// P34.2: a script comes back; with a bit changed, something cut off or put behind, its bytes are another one's, or nobody's.
func TestBackAndForth(t *testing.T) {
	changed, refused := 0, 0
	for seed := range uint64(300) {
		rng := rand.New(rand.NewPCG(341, seed))
		l := drawnScript(rng)
		isWritten(t, "drawn", l)
		b := bytesOf(l)
		for i := range b {
			noScript(t, "cut", b[:i])
			for _, bit := range []byte{1, 2, 16, 128} {
				other := slices.Clone(b)
				other[i] ^= bit
				back, e := trace.Read(other)
				if e != api.OK {
					refused++
					if e != api.ErrDecode || len(back) != 0 {
						t.Fatalf("seed %d: byte %d: error %d, %+v", seed, i, e, back)
					}
					continue
				}
				changed++
				if again, e := trace.Write(back); e != api.OK || !bytes.Equal(again, other) || slices.EqualFunc(back, l, sameStep) {
					t.Fatalf("seed %d: byte %d: %+v has %x, too", seed, i, back, other)
				}
			}
		}
		for n := range 10 {
			noScript(t, "behind", append(slices.Clone(b), make([]byte, n+1)...))
		}
	}
	if changed < 1000 || refused < 1000 {
		t.Errorf("%d changed, %d refused", changed, refused)
	}
}

// P1, P34.1: of all bytes Read tells something.
func TestAllBytes(t *testing.T) {
	noScript(t, "none", nil)
	noScript(t, "none", []byte{})
	for seed := range uint64(3000) {
		rng := rand.New(rand.NewPCG(342, seed))
		b := make([]byte, rng.IntN(200))
		for i := range b {
			b[i] = byte(rng.IntN(4) * rng.IntN(2) * rng.IntN(86))
		}
		if len(b) > 8 {
			copy(b, num(nil, rng.IntN(3)))
		}
		l, e := trace.Read(b)
		if e == api.OK {
			isWritten(t, "read", l)
		} else if e != api.ErrDecode || len(l) != 0 {
			t.Fatalf("%x: error %d, %+v", b, e, l)
		}
	}
	for _, n := range []int{1, 999, 1000, 1001, 1 << 31, 1 << 62, math.MaxInt, -1} {
		noScript(t, "a count alone", num(nil, n))
		noScript(t, "a count, and noughts", append(num(nil, n), make([]byte, 20)...))
	}
	huge := append(num(nil, 1), make([]byte, 2+24)...)
	noScript(t, "a name without its bytes", append(huge, 0xff, 0xff, 0xff, 0xff))
	noScript(t, "a count of Stay without them", append(slices.Clone(huge), 0, 0, 0, 0, 0, 0, 0, 0, 0, 0, 0, 0, 0, 0, 3, 232))
}

// P34.4: what is handed in isn't kept or changed, answers are new memory.
func TestMemory(t *testing.T) {
	x := script.Step{Kind: 1, Name: []byte("name.")[:4], Value: []byte("value.")[:5], Stay: []bool{true, false, true}[:2], Raw: []byte("raw.")[:3]}
	l := []script.Step{x, full(), {Kind: 9}}[:2]
	b, e := trace.Write(l)
	if e != api.OK || !bytes.Equal(b, bytesOf(l)) {
		t.Fatalf("error %d", e)
	}
	if string(x.Name[:5]) != "name." || string(x.Value[:6]) != "value." || !slices.Equal(x.Stay[:3], []bool{true, false, true}) || string(x.Raw[:4]) != "raw." || l[:3][2].Kind != 9 {
		t.Errorf("%+v was changed", l[:3])
	}
	whole := append(slices.Clone(b), 0xaa, 0xbb)
	back, e := trace.Read(whole[:len(b)])
	if e != api.OK || !bytes.Equal(whole[len(b):], []byte{0xaa, 0xbb}) || !bytes.Equal(whole[:len(b)], b) {
		t.Fatalf("error %d, %x", e, whole)
	}
	want := []script.Step{{Kind: 1, Name: []byte("name"), Value: []byte("value"), Stay: []bool{true, false}, Raw: []byte("raw")}, full()}
	clear(whole)
	clear(b)
	if !slices.EqualFunc(back, want, sameStep) || !slices.EqualFunc(l, want, sameStep) {
		t.Errorf("%+v", back)
	}
	for i := range back { // what stands behind one list is no other one's
		back[i].Name = append(back[i].Name, "0123456789"...)
		back[i].Value = append(back[i].Value, "0123456789"...)
		back[i].Raw = append(back[i].Raw, "0123456789"...)
	}
	for i, x := range back {
		if string(x.Name) != string(want[i].Name)+"0123456789" || string(x.Value) != string(want[i].Value)+"0123456789" || string(x.Raw) != string(want[i].Raw)+"0123456789" {
			t.Errorf("%d: %+v", i, x)
		}
	}
}

// P34.2: steps have no more fields than those that are written.
func TestFields(t *testing.T) {
	if n := reflect.TypeFor[script.Step]().NumField(); n != 9 {
		t.Errorf("%d fields", n)
	}
}
