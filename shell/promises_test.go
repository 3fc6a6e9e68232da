package shell_test

import (
	"bytes"
	"fmt"
	"math/rand/v2"
	"regexp"
	"strconv"
	"strings"
	"testing"

	"casket/api"
	"casket/cluster"
	"casket/script"
	"casket/shell"
)

// grammar: a line's form, with its numbers, and its step's kind; of what is put into which field tell the names of the groups.
var grammar = func() map[*regexp.Regexp]int {
	out := map[*regexp.Regexp]int{}
	for form, kind := range map[string]int{
		"put C NAME VALUE H": 1, "del C NAME H": 2, "get C NAME": 3, "rotate C": 4, "sweep C NAME": 5,
		"deliver B K": 6, "lose B K": 7, "twice B K": 8, "tick": 9, "up B": 10, "down B": 11, "fuse B K": 12, "crash B": 13, "compare B K": 14, "hand B K": 15, "settle": 16,
	} {
		for _, field := range []string{"C", "H", "B", "K"} {
			form = regexp.MustCompile(`\b`+field+`\b`).ReplaceAllString(form, `(?P<`+field+`>0|[1-9][0-9]{0,2})`)
		}
		form = strings.Replace(form, "NAME", `(?P<N>[^ ]*)`, 1)
		form = strings.Replace(form, "VALUE", `(?P<V>[^ ]*)`, 1)
		out[regexp.MustCompile(`^`+form+`$`)] = kind
	}
	return out
}()

// stepOf: by the grammar.
func stepOf(line string) (script.Step, bool) {
	for form, kind := range grammar {
		m := form.FindStringSubmatch(line)
		if m == nil {
			continue
		}
		x := script.Step{Kind: kind}
		for i, name := range form.SubexpNames() {
			n, _ := strconv.Atoi(m[i])
			switch name {
			case "C":
				x.Client = n
			case "H":
				x.Handle = n
			case "B":
				x.Box = n
			case "K":
				x.K = n
			case "N":
				x.Name = []byte(m[i])
			case "V":
				x.Value = []byte(m[i])
			}
		}
		return x, true
	}
	return script.Step{}, false
}

// model: what the chapter tells of a text.
func model(t *testing.T, text string) string {
	t.Helper()
	s, e := script.New(script.Config{
		Cluster: cluster.Config{Replicas: 3, Points: 4, N: 3, R: 2, W: 2, Wait: 10, Sectors: 2000},
		Clients: 3, Ideal: true, Seed: [32]byte(bytes.Repeat([]byte{7}, 32)),
	})
	if e != api.OK {
		t.Fatal(e)
	}
	var out string
	done := map[int]bool{}
	for i, line := range strings.Split(text, "\n") {
		if i >= 150 || line == "" || line[0] == '#' {
			continue
		}
		x, ok := stepOf(line)
		if !ok {
			out += "what?\n"
			continue
		}
		if e := s.Do(x); e != 0 {
			out += fmt.Sprintf("error %d\n", e)
		} else {
			out += "ok\n"
		}
		for i, r := range s.Results() {
			if !r.Done || done[i] {
				continue
			}
			done[i] = true
			out += told(i, r) + "\n"
		}
	}
	return out
}

func told(i int, r script.Result) string {
	line := fmt.Sprintf("get %d", i)
	if r.Put {
		line = fmt.Sprintf("put %d", i)
	}
	if r.Err != 0 {
		return line + fmt.Sprintf(" error %d", r.Err)
	}
	if r.Put {
		return line
	}
	for _, v := range r.Values {
		if v.Deleted {
			line += " -"
		} else {
			line += " " + string(v.Bytes)
		}
	}
	return line + fmt.Sprintf(" handle %d", r.Handle)
}

func pick(rng *rand.Rand, l ...string) string { return l[rng.IntN(len(l))] }

// drawnLine: most of them ask for something.
func drawnLine(rng *rand.Rand) string {
	c, b, k := pick(rng, "1", "2", "3"), pick(rng, "0", "1", "2"), pick(rng, "0", "0", "0", "1", "2")
	name, h := pick(rng, "a", "b"), pick(rng, "0", "0", "1", "2", "3", "4", "5")
	if rng.IntN(20) == 0 {
		c, b, k, h = pick(rng, "0", "4", "00", "x", ""), pick(rng, "3", "4", "-1", "01", "999", "1000"), pick(rng, "9", "100", "1000", "k"), pick(rng, "99", "h", "07")
		name = pick(rng, "", strings.Repeat("n", 64), strings.Repeat("n", 65), "#", "-")
	}
	value := pick(rng, "x", "y", "z", "", "-", strings.Repeat("v", rng.IntN(300)))
	front := pick(rng, b, "3")
	switch n := rng.IntN(60); {
	case n < 9:
		return "put " + c + " " + name + " " + value + " " + h
	case n < 11:
		return "del " + c + " " + name + " " + h
	case n < 20:
		return "get " + c + " " + name
	case n < 22:
		return "rotate " + c
	case n < 25:
		return "sweep " + c + " " + name
	case n < 36:
		return "deliver " + front + " " + k
	case n < 44:
		return pick(rng, "lose ", "twice ", "twice ") + front + " " + k
	case n < 48:
		return pick(rng, "tick", "settle", "settle", "settle")
	case n < 55:
		return pick(rng, "up ", "up ", "down ", "crash ", "crash ") + b
	case n < 59:
		return pick(rng, "fuse ", "compare ", "compare ", "hand ") + b + " " + pick(rng, "0", "1", "2", "7")
	}
	return pick(rng, "", "#", " ", "foo", "tick ", " tick", "# get 1 a", "PUT 1 a x 0")
}

// P32.1: drawn texts, held against a system that is driven as the chapter tells.
func TestDrawn(t *testing.T) {
	gets, errors, whats := 0, 0, 0
	for seed := range uint64(300) {
		rng := rand.New(rand.NewPCG(321, seed))
		var l []string
		for range rng.IntN(180) {
			l = append(l, drawnLine(rng))
		}
		text := strings.Join(l, "\n")
		if rng.IntN(2) == 0 {
			text += "\n"
		}
		got, want := shell.Run(text), model(t, text)
		if got != want {
			t.Fatalf("seed %d: %q: %q, want %q", seed, text, got, want)
		}
		gets += strings.Count(got, "handle")
		errors += strings.Count(got, "error")
		whats += strings.Count(got, "what?")
	}
	if gets < 500 || errors < 500 || whats < 100 {
		t.Errorf("only %d Gets done, %d errors, %d lines that ask for nothing", gets, errors, whats)
	}
}

// P32.2: between lines behind which all is settled replicas crash, and nothing is told otherwise.
func TestCrashes(t *testing.T) {
	told := 0
	for seed := range uint64(150) {
		rng := rand.New(rand.NewPCG(322, seed))
		var with, without []string
		for range 1 + rng.IntN(12) {
			var l []string
			for range rng.IntN(8) {
				x := drawnLine(rng)
				if !strings.HasPrefix(x, "fuse") { // without power what is under way isn't settled
					l = append(l, x)
				}
			}
			l = append(l, "settle")
			with, without = append(with, l...), append(without, l...)
			for range 1 + rng.IntN(2) {
				with = append(with, "crash "+strconv.Itoa(rng.IntN(3)))
			}
		}
		if len(with) > 150 {
			continue
		}
		got := answers(with)
		want := answers(without)
		for _, a := range with { // the crashes' own lines tell that they are done
			is := got[0]
			got = got[1:]
			if len(want) > 0 && len(without) > 0 && without[0] == a {
				if is != want[0] {
					t.Fatalf("seed %d: %q: %q, want %q; %q", seed, a, is, want[0], with)
				}
				told += strings.Count(is, "handle")
				without, want = without[1:], want[1:]
			} else if is != "ok\n" || !strings.HasPrefix(a, "crash ") {
				t.Fatalf("seed %d: %q: %q", seed, a, is)
			}
		}
	}
	if told < 100 {
		t.Errorf("only %d Gets told", told)
	}
}

// answers: what comes of each line: its own answer, and the lines of results behind it.
func answers(l []string) []string {
	left := strings.SplitAfter(shell.Run(strings.Join(l, "\n")), "\n")
	var out []string
	for _, line := range l {
		is := ""
		if line != "" && line[0] != '#' {
			is, left = left[0], left[1:]
		}
		for is != "" && (strings.HasPrefix(left[0], "put ") || strings.HasPrefix(left[0], "get ")) {
			is, left = is+left[0], left[1:]
		}
		out = append(out, is)
	}
	return out
}
