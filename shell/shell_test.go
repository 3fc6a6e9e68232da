package shell_test

import (
	"bytes"
	"strconv"
	"strings"
	"testing"

	"casket/shell"
	"casket/vault"
)

// runs: lines, and what comes of them.
func runs(t *testing.T, what, text, want string) {
	t.Helper()
	if got := shell.Run(text); got != want {
		t.Errorf("%s: %q, want %q", what, got, want)
	}
}

// lines: with a line end each.
func lines(l ...string) string {
	var out string
	for _, x := range l {
		out += x + "\n"
	}
	return out
}

// P32.1: the chapter's example.
func TestExample(t *testing.T) {
	want := lines("ok", "ok", "put 0", "ok", "ok", "get 1 x handle 1")
	runs(t, "example", lines("put 1 a x 0", "settle", "get 2 a", "settle"), want)
	runs(t, "without a line end", "put 1 a x 0\nsettle\nget 2 a\nsettle", want)
}

// P32.1: what gives nothing.
func TestNothing(t *testing.T) {
	for _, text := range []string{"", "\n", "\n\n\n", "#", "# put 1 a x 0\n", "#tick\n\n#\n", "##"} {
		runs(t, "nothing", text, "")
	}
	runs(t, "between", lines("", "tick", "#", "", "# settle", "settle", ""), lines("ok", "ok"))
}

// P32.1: a line that isn't one of the table's.
func TestWhat(t *testing.T) {
	for _, line := range []string{
		" ", "  ", " #", " tick", "tick ", "tick tick", "tick 1", "settle ", "Settle", "TICK", "tick\r", "\t", "foo", "what?", "ok", "forge 0 0", "put", "del", "\x00", "é", "put1", "put\t1 a x 0",
		"put 1 a x", "put 1 a x 0 0", "put 1 a x 0 ", "put  1 a x 0", "put 1 a  x 0", "put a 1 x 0", "put 1 a x h", "put 1 a 0", "put 1 a x ",
		"del 1 a", "del 1 a x 0", "del 1 a x", "del x a 0", "del 1", "get", "get 1", "get 1 a 0", "get a 1", "get  a", "sweep 1", "sweep 1 a 0", "sweep", "sweep a a", "rotate", "rotate 1 1", "rotate a", "rotate ",
		"deliver", "deliver 0", "deliver 0 0 0", "deliver a 0", "deliver 0 a", "lose 0", "lose 0 0 0", "lose a 0", "lose 0 a", "lose 0 ", "twice 0", "twice 0 0 0", "twice a 0", "twice 0 a",
		"up", "up 0 0", "up a", "down", "down 0 0", "down a", "crash", "crash 0 0", "crash a", "fuse", "fuse 0", "fuse 0 1 1", "fuse a 1", "fuse 0 a",
		"compare 0", "compare 0 1 1", "compare a 1", "compare 0 a", "hand 0", "hand 0 1 1", "hand a 1", "hand 0 a", "drop 0 0", "clear 0", "image 0", "results",
	} {
		runs(t, line, line, "what?\n")
		runs(t, line, line+"\ntick\n"+line+"\n", "what?\nok\nwhat?\n")
	}
}

// P32.1: a number is one to three digits, without a nought ahead.
func TestNumbers(t *testing.T) {
	for n := range 1200 {
		want := "error 1\n"
		switch {
		case n > 999:
			want = "what?\n"
		case 1 <= n && n <= 3:
			want = "ok\n"
		}
		runs(t, "number", "rotate "+strconv.Itoa(n), want)
	}
	for _, w := range []string{"", "00", "01", "000", "001", "010", "0000", "1000", "9999", "-1", "-0", "+1", "+0", "1.", "1.0", "1e1", "0x1", "1_0", "１", "٣", "a", "1a", "a1", " 1", "99999999999999999999", "one"} {
		runs(t, w, "rotate "+w, "what?\n")
		runs(t, w, "deliver "+w+" 0", "what?\n")
		runs(t, w, "deliver 0 "+w, "what?\n")
		runs(t, w, "put "+w+" a x 0", "what?\n")
		runs(t, w, "put 1 a x "+w, "what?\n")
		runs(t, w, "del 1 a "+w, "what?\n")
		runs(t, w, "up "+w, "what?\n")
		runs(t, w, "fuse 0 "+w, "what?\n")
	}
	for _, w := range []string{"0", "10", "100", "999"} {
		runs(t, w, "put 1 a x "+w, "ok\n")
		runs(t, w, "fuse 0 "+w, "ok\n")
		runs(t, w, "up "+w, "ok\n")
	}
}

// P32.1: each line does its step.
func TestSteps(t *testing.T) {
	for _, x := range []struct{ in, want []string }{
		{[]string{"put 1 a x 0", "deliver 0 0", "deliver 1 0", "deliver 3 0", "deliver 3 0", "deliver 3 0"}, []string{"ok", "ok", "ok", "ok", "ok", "put 0", "error 7"}},
		{[]string{"put 1 a x 0", "lose 0 0", "lose 1 0", "settle", "tick", "tick"}, []string{"ok", "ok", "ok", "ok", "ok", "ok"}},
		{[]string{"put 1 a x 0", "lose 0 0", "twice 1 0", "deliver 1 1", "deliver 1 0", "deliver 1 0", "settle"}, []string{"ok", "ok", "ok", "ok", "ok", "error 7", "ok", "put 0"}},
		{[]string{"deliver 4 0", "lose 4 0", "twice 9 0", "deliver 3 1", "twice 0 0"}, []string{"error 1", "error 1", "error 1", "error 7", "error 7"}},
		{[]string{"put 4 a x 0", "put 0 a x 0", "del 4 a 0", "get 4 a", "sweep 4 a", "rotate 4"}, []string{"error 1", "error 1", "error 1", "error 1", "error 1", "error 1"}},
		{[]string{"crash 3", "crash 0", "compare 0 0", "compare 0 3", "compare 0 1", "hand 0 1", "hand 3 0"}, []string{"error 1", "ok", "error 1", "error 1", "ok", "error 7", "error 1"}},
		{[]string{"up 9", "down 9", "fuse 9 9", "sweep 1 a", "sweep 1 "}, []string{"ok", "ok", "ok", "ok", "error 1"}},
		{[]string{"down 0", "down 1", "down 2", "put 1 a x 0", "settle", "get 1 a", "settle"}, []string{"ok", "ok", "ok", "ok", "ok", "ok", "ok"}},
		{[]string{"fuse 0 1", "put 1 a x 0", "deliver 0 0", "deliver 0 0", "deliver 1 0", "deliver 2 0", "settle", "compare 0 1", "crash 0", "compare 0 1", "settle"}, []string{"ok", "ok", "error 9", "error 7", "ok", "ok", "ok", "put 0", "error 9", "ok", "ok", "ok"}},
		{[]string{"down 2", "put 1 a x 0", "settle", "up 2", "get 1 a", "lose 0 0", "settle"}, []string{"ok", "ok", "ok", "put 0", "ok", "ok", "ok", "ok", "get 1 x handle 1"}},
		{[]string{"put 1 a x 0", "lose 0 0", "settle", "compare 0 1", "settle", "down 1", "get 2 a", "settle"}, []string{"ok", "ok", "ok", "put 0", "ok", "ok", "ok", "ok", "ok", "get 1 x handle 1"}},
	} {
		runs(t, strings.Join(x.in, ", "), lines(x.in...), lines(x.want...))
	}
}

// P32.1: what a Get tells: values, in their order, what was deleted, an error; of no values the handle alone.
func TestGets(t *testing.T) {
	runs(t, "none", lines("get 1 a", "settle", "get 2 b", "get 3 a", "settle"), lines("ok", "ok", "get 0 handle 1", "ok", "ok", "ok", "get 1 handle 2", "get 2 handle 3"))
	runs(t, "beside each other", lines("put 2 a y 0", "put 1 a x 0", "del 3 a 0", "settle", "get 1 a", "settle", "del 1 a 1", "settle", "get 1 a", "settle"),
		lines("ok", "ok", "ok", "ok", "put 0", "put 1", "put 2", "ok", "ok", "get 3 x y - handle 1", "ok", "ok", "put 4", "ok", "ok", "get 5 - handle 2"))
	runs(t, "an unseen one", lines("put 1 a x 0", "settle", "get 1 a", "settle", "put 1 a y 1", "put 2 a z 0", "settle", "get 1 a", "settle"),
		lines("ok", "ok", "put 0", "ok", "ok", "get 1 x handle 1", "ok", "ok", "ok", "put 2", "put 3", "ok", "ok", "get 4 y z handle 2"))
	in, want := []string{"get 1 a"}, []string{"ok"}
	for range 11 {
		in, want = append(in, "tick"), append(want, "ok")
	}
	runs(t, "too late", lines(append(in, "put 1 a x 0", "settle")...), lines(append(want, "get 0 error 12", "ok", "ok", "put 1")...))
	in[0] = "put 1 a x 0"
	runs(t, "too late", lines(in...), lines(append(want, "put 0 error 12")...))
}

// P32.1: names and values are words as they are, also the empty one.
func TestWords(t *testing.T) {
	for _, w := range []string{"x", "#", "-", "0", "handle", "\x00\xff\xfe", "é", "\r", "\t", strings.Repeat("v", 58), strings.Repeat("v", 3999)} {
		runs(t, w, lines("put 1 a "+w+" 0", "settle", "get 1 a", "settle"), lines("ok", "ok", "put 0", "ok", "ok", "get 1 "+w+" handle 1"))
		if len(w) < 64 {
			runs(t, w, lines("put 1 "+w+" x 0", "settle", "get 1 "+w, "settle", "get 1 a", "settle"), lines("ok", "ok", "put 0", "ok", "ok", "get 1 x handle 1", "ok", "ok", "get 2 handle 2"))
		}
	}
	runs(t, "empty", lines("put 1 a  0", "settle", "get 1 a", "settle"), lines("ok", "ok", "put 0", "ok", "ok", "get 1  handle 1"))
	runs(t, "no name", lines("put 1  x 0", "del 1  0", "get 1 ", "settle"), lines("error 1", "error 1", "error 1", "ok"))
	long := strings.Repeat("n", 64)
	runs(t, "long", lines("put 1 "+long+" x 0", "put 1 "+long+"n x 0", "put 1 a "+strings.Repeat("v", 4000)+" 0"), lines("ok", "error 1", "error 5"))
}

// P32.1: of a step that is refused there is no result, but what is done is told behind it.
func TestPlaces(t *testing.T) {
	runs(t, "places", lines("put 4 a x 0", "what", "put 1 a x 0", "settle", "get 0 a", "get 1 a", "settle"), lines("error 1", "what?", "ok", "ok", "put 0", "error 1", "ok", "ok", "get 1 x handle 1"))
}

// P32.1: three clients; rotate and sweep.
func TestSweep(t *testing.T) {
	runs(t, "sweep", lines("put 1 a x 0", "put 2 a y 0", "settle", "rotate 3", "get 3 a", "settle", "sweep 3 a", "settle", "get 1 a", "settle", "sweep 3 a", "settle"),
		lines("ok", "ok", "ok", "put 0", "put 1", "ok", "ok", "ok", "get 2 x y handle 1", "ok", "ok", "put 3", "put 4", "ok", "ok", "get 5 x y handle 2", "ok", "ok"))
}

// P32.1: 150 lines are done, those that give nothing among them.
func TestManyLines(t *testing.T) {
	for n := 140; n < 160; n++ {
		runs(t, "ticks", strings.Repeat("tick\n", n), strings.Repeat("ok\n", min(n, 150)))
		runs(t, "empty ones", strings.Repeat("\n", n)+"tick", strings.Repeat("ok\n", min(1, max(0, 150-n))))
		runs(t, "remarks", strings.Repeat("#\n", n)+"tick\n", strings.Repeat("ok\n", min(1, max(0, 150-n))))
		runs(t, "unknown ones", strings.Repeat("x\n", n)+"tick\n", strings.Repeat("what?\n", min(n, 150))+strings.Repeat("ok\n", min(1, max(0, 150-n))))
	}
	runs(t, "very many", strings.Repeat("tick\n", 100000), strings.Repeat("ok\n", 150))
	runs(t, "long ones", strings.Repeat(strings.Repeat("x ", 100000)+"\n", 3), strings.Repeat("what?\n", 3))
}

// P1: all bytes are a text.
func TestAllBytes(t *testing.T) {
	var all []byte
	for a := range 256 {
		all = append(all, byte(a), ' ', byte(a), '\n')
	}
	got := shell.Run(string(all))
	if n := strings.Count(got, "what?\n"); n != 147 || len(got) != 147*len("what?\n") { // of 150 lines a # and the line end's two empty ones give nothing
		t.Errorf("%d lines: %q", n, got)
	}
}

// P32.1: the disks have 2000 sectors: a log of 63936 bytes. Each value of a key of its own takes 417 bytes, and its class.
func TestSectors(t *testing.T) {
	for _, x := range []struct {
		sizes [4]int // how many values of each class, the largest first
		fits  bool
	}{
		{[4]int{11, 0, 19, 3}, true}, // 63873
		{[4]int{7, 2, 3, 57}, true},  // 63909
		{[4]int{13, 3, 0, 2}, false}, // 63954
		{[4]int{13, 2, 0, 5}, false}, // 63956
	} {
		var in, want []string
		n := 0
		for class, size := range []int{2000, 500, 100, 1} {
			for range x.sizes[class] {
				in = append(in, "put 1 "+strconv.Itoa(n)+" "+strings.Repeat("v", size)+" 0", "settle")
				want = append(want, "ok", "ok", "put "+strconv.Itoa(n))
				n++
			}
		}
		if !x.fits {
			want = want[:len(want)-1]
		}
		runs(t, "sectors", lines(in...), lines(want...))
	}
}

// P32.1: the vault is an ideal one, whose keys all stand in one leaf. By a real one these names would stand in leaves below all nodes of a level, which are more than a message tells.
func TestIdeal(t *testing.T) {
	real := vault.Real([32]byte(bytes.Repeat([]byte{7}, 32)))
	var nodes [64]bool
	in, want := []string{"down 1"}, []string{"ok"}
	count := 0
	for n := 0; count < len(nodes); n++ {
		name := strconv.Itoa(n)
		key, _ := real.Blind([]byte(name))
		if nodes[key[0]/4] {
			continue
		}
		nodes[key[0]/4] = true
		in, want = append(in, "put 1 "+name+" x 0", "settle"), append(want, "ok", "ok", "put "+strconv.Itoa(count))
		count++
	}
	in, want = append(in, "up 1", "compare 0 1"), append(want, "ok", "ok")
	for i := range 7 { // five levels down, and the rows of both
		in, want = append(in, "deliver "+strconv.Itoa(1-i%2)+" 0"), append(want, "ok")
	}
	runs(t, "ideal", lines(append(in, "deliver 0 0", "deliver 1 0")...), lines(append(want, "error 7", "error 7")...))
}
