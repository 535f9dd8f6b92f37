package streams_test

import (
	"encoding/json"
	"strconv"
	"strings"
	"testing"

	"pendule/api"
	"pendule/parse"
	"pendule/streams"
	"pendule/tree"
)

// program returns the program of a text, which must be well-formed.
func program(t *testing.T, text string) api.Program {
	t.Helper()
	p, f := parse.Parse(text)
	if f != (api.Fault{}) {
		t.Fatalf("Parse(%q): fault %v", text, f)
	}
	return p
}

// A stream is written as its cells: a number for a Value, nil, or absent.
func showCell(c api.Cell) string {
	switch c {
	case api.Cell{Kind: api.Nil}:
		return "nil"
	case api.Cell{Kind: api.Absent}:
		return "absent"
	case api.Cell{Kind: api.Value, N: c.N}:
		return strconv.FormatInt(c.N, 10)
	}
	return "kind " + strconv.Itoa(c.Kind)
}

// showStreams writes the streams whose cells are in the columns of rows, with a semicolon between any two.
func showStreams(rows [][]api.Cell) string {
	if len(rows) == 0 {
		return ""
	}
	var l []string
	for i := range rows[0] {
		var s []string
		for _, row := range rows {
			s = append(s, showCell(row[i]))
		}
		l = append(l, strings.Join(s, " "))
	}
	return strings.Join(l, "; ")
}

// readScript returns the rows of a script that is written as the streams of the Ins, with a semicolon between any two.
func readScript(t *testing.T, text string) [][]int64 {
	t.Helper()
	var rows [][]int64
	for i, s := range strings.Split(text, ";") {
		for at, word := range strings.Fields(s) {
			n, err := strconv.ParseInt(word, 10, 64)
			if err != nil {
				t.Fatal(err)
			}
			if i == 0 {
				rows = append(rows, nil)
			}
			rows[at] = append(rows[at], n)
		}
	}
	return rows
}

// played returns what the node of p yields for a script that it takes.
func played(t *testing.T, p api.Program, node string, script [][]int64) [][]api.Cell {
	t.Helper()
	l, f := streams.Run(p, node, script)
	if f != (api.Fault{}) || len(l) != len(script) {
		t.Fatalf("Run(%s, %q, %v): %d rows, fault %v", text(p), node, script, len(l), f)
	}
	return l
}

// begun returns the node of p, ready to be played, which it must be.
func begun(t *testing.T, p api.Program, node string) *streams.Play {
	t.Helper()
	y, f := streams.New(p, node)
	if f != (api.Fault{}) || y == nil {
		t.Fatalf("New(%s, %q): %v, fault %v", text(p), node, y, f)
	}
	return y
}

// checkPlayed holds the streams of the Outs of the node main in p, and the judge to the same.
func checkPlayed(t *testing.T, p api.Program, ins, want string) {
	t.Helper()
	script := readScript(t, ins)
	if got := showStreams(played(t, p, "main", script)); got != want {
		t.Errorf("%s, with the inputs %s: %s, want %s", text(p), ins, got, want)
	}
	if got := showStreams(judgeOf(p).outs("main", script)); got != want {
		t.Errorf("%s, with the inputs %s, is judged: %s, want %s", text(p), ins, got, want)
	}
}

// prelude declares what the tests of items use. The Out of count is the number of the instant.
const prelude = "type colour = Red | Green | Blue; type one = One; " +
	"node count (a) = (n) where n = 1 + (0 fby n); end " +
	"node total (a) = (s) where s = a + (0 fby s); end " +
	"node swap (a, b) = (u, v) where u = b; v = a; end " +
	"node before (a) = (b) where b = pre a; end "

// last is the index of the node behind those of prelude.
const last = 4

// inNode returns the text of a program whose last node is main, with the Ins x, c and d, and the Out y.
func inNode(items string) string {
	return prelude + "node main (x, c, d) = (y) where " + items + " end"
}

// checkItems holds the stream of y in a node with these items, where x is 1, 2, 3 and so on, for as many instants as c and d have, which are written as their digits.
func checkItems(t *testing.T, items, c, d, want string) {
	t.Helper()
	var x []string
	for i := range c {
		x = append(x, strconv.Itoa(i+1))
	}
	spaced := func(s string) string { return strings.Join(strings.Split(s, ""), " ") }
	checkPlayed(t, program(t, inNode(items)), strings.Join(x, " ")+";"+spaced(c)+";"+spaced(d), want)
}

// checkSimple holds the stream of y at four instants, where c is false and true in turn, and d the other way round.
func checkSimple(t *testing.T, items, want string) {
	t.Helper()
	checkItems(t, items, "0101", "1010", want)
}

func checkProgramFault(t *testing.T, what string, p api.Program, node string, want api.Fault) {
	t.Helper()
	if y, f := streams.New(p, node); f != want || y != nil {
		t.Errorf("New(%s, %q): %v, fault %v, want %v", what, node, y, f, want)
	}
	for _, script := range [][][]int64{nil, {{1}}, {{1, 2, 3, 4, 5, 6, 7}}, make([][]int64, api.MaxSteps+1)} {
		if l, f := streams.Run(p, node, script); f != want || len(l) > 0 {
			t.Errorf("Run(%s, %q, %v): %v, fault %v, want %v", what, node, script, l, f, want)
		}
	}
}

// checkFault holds the fault of texts, whatever the node is that is asked for.
func checkFault(t *testing.T, want api.Fault, texts ...string) {
	t.Helper()
	for _, s := range texts {
		for _, node := range []string{"main", "sound", "nowhere", ""} {
			checkProgramFault(t, s, program(t, s), node, want)
		}
	}
}

// text writes a program as a source text is, whatever its names are.
func text(p api.Program) string {
	s := ""
	for _, e := range p.Enums {
		s += "type " + e.Name + " = " + strings.Join(e.Cons, " | ") + "; "
	}
	for _, n := range p.Nodes {
		s += "node " + n.Name + " "
		if len(n.Funs) > 0 {
			s += list("[", n.Funs, "] ")
		}
		s += list("(", n.Ins, ") = ") + list("(", n.Outs, ") where ")
		for _, i := range n.Items {
			if len(i.States) > 0 {
				s += "automaton " + show(i.States) + " "
			}
			s += list("(", i.Names, ") = ") + tree.Show(i.E) + "; "
		}
		s += "end "
	}
	return s
}

func list(begin string, l []string, end string) string { return begin + strings.Join(l, ", ") + end }

// clone returns a copy of x that shares no memory with it.
func clone[T any](x T) T {
	var c T
	if err := json.Unmarshal([]byte(show(x)), &c); err != nil {
		panic(err)
	}
	return c
}

// show writes all of x.
func show(x any) string {
	b, err := json.Marshal(x)
	if err != nil {
		panic(err)
	}
	return string(b)
}
