package shell

import (
	"strconv"
	"strings"

	"casket/script"
)

// stepOf: the step that a line asks for, if it is one.
func stepOf(line string) (script.Step, bool) {
	words := strings.Split(line, " ")
	kind, takes := formOf(words[0])
	if kind == 0 || len(words)-1 != len(takes) {
		return script.Step{}, false
	}
	x := script.Step{Kind: kind}
	for i, what := range takes {
		if !take(&x, what, words[i+1]) {
			return script.Step{}, false
		}
	}
	return x, true
}

// formOf: the kind that a line's first word asks for (0: none), and what the words behind it are: a letter for each.
func formOf(word string) (int, string) {
	switch word {
	case "put":
		return script.Put, "CnvH"
	case "del":
		return script.Delete, "CnH"
	case "get":
		return script.Get, "Cn"
	case "sweep":
		return script.Sweep, "Cn"
	case "rotate":
		return script.Rotate, "C"
	case "deliver":
		return script.Deliver, "BK"
	case "lose":
		return script.Lose, "BK"
	case "twice":
		return script.Twice, "BK"
	case "tick":
		return script.Tick, ""
	case "settle":
		return script.Settle, ""
	}
	return formOfReplica(word)
}

// formOfReplica: of those that speak of a replica.
func formOfReplica(word string) (int, string) {
	switch word {
	case "up":
		return script.Up, "B"
	case "down":
		return script.Down, "B"
	case "crash":
		return script.Crash, "B"
	case "fuse":
		return script.Fuse, "BK"
	case "compare":
		return script.Compare, "BK"
	case "hand":
		return script.Hand, "BK"
	}
	return 0, ""
}

// take: a word becomes what its letter says, if it can: a name and a value as they are, all others as numbers.
func take(x *script.Step, what rune, word string) bool {
	switch what {
	case 'n':
		x.Name = []byte(word)
		return true
	case 'v':
		x.Value = []byte(word)
		return true
	}
	n, ok := number(word)
	switch what {
	case 'C':
		x.Client = n
	case 'H':
		x.Handle = n
	case 'B':
		x.Box = n
	case 'K':
		x.K = n
	}
	return ok
}

// number: a word that is one is told just as it came: no sign, and no nought ahead.
func number(word string) (int, bool) {
	n, e := strconv.Atoi(word)
	if e != nil || n < 0 || n > mostNumber || strconv.Itoa(n) != word {
		return 0, false
	}
	return n, true
}
