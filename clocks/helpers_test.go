package clocks_test

import (
	"encoding/json"
	"strings"
	"testing"

	"pendule/api"
	"pendule/clocks"
	"pendule/parse"
)

func clockFault(a, b int) api.Fault { return api.Fault{Err: api.ErrClock, A: a, B: b} }

// program returns the program of a text, which must be well-formed.
func program(t *testing.T, text string) api.Program {
	t.Helper()
	p, f := parse.Parse(text)
	if f != (api.Fault{}) {
		t.Fatalf("Parse(%q): fault %v", text, f)
	}
	return p
}

// expr returns the expression of a text, which must be one.
func expr(t *testing.T, text string) api.Expr {
	t.Helper()
	e, f := parse.Expr(text)
	if f != (api.Fault{}) {
		t.Fatalf("Expr(%q): fault %v", text, f)
	}
	return e
}

// showClock writes a clock as VAR=CON, with a comma between any two, and the base clock as "".
func showClock(c api.Clock) string {
	var l []string
	for _, s := range c {
		l = append(l, s.Var+"="+s.Con)
	}
	return strings.Join(l, ",")
}

// readClock returns the clock that showClock wrote.
func readClock(s string) api.Clock {
	var c api.Clock
	if s == "" {
		return nil
	}
	for _, part := range strings.Split(s, ",") {
		x, con, _ := strings.Cut(part, "=")
		c = append(c, api.Sample{Var: x, Con: con})
	}
	return c
}

// showVars writes variables as NAME:CLOCK, or NAME alone where that is the base clock.
func showVars(vars []api.Named) string {
	var l []string
	for _, v := range vars {
		if len(v.Clock) > 0 {
			v.Name += ":" + showClock(v.Clock)
		}
		l = append(l, v.Name)
	}
	return strings.Join(l, " ")
}

// readVars returns the variables that showVars wrote.
func readVars(s string) []api.Named {
	var l []api.Named
	for _, part := range strings.Fields(s) {
		name, c, _ := strings.Cut(part, ":")
		l = append(l, api.Named{Name: name, Clock: readClock(c)})
	}
	return l
}

func showAll(l [][]api.Named) string {
	var lines []string
	for _, vars := range l {
		lines = append(lines, showVars(vars))
	}
	return strings.Join(lines, "\n")
}

// inferred returns the clocks of the nodes of a program that has clocks.
func inferred(t *testing.T, p api.Program) [][]api.Named {
	t.Helper()
	l, f := clocks.Infer(p)
	if f != (api.Fault{}) {
		t.Fatalf("Infer(%s): fault %v", showProgram(p), f)
	}
	if len(l) != len(p.Nodes) {
		t.Fatalf("Infer(%s): %d answers for %d nodes", showProgram(p), len(l), len(p.Nodes))
	}
	for _, vars := range l {
		for _, v := range vars {
			if v.Type != 0 {
				t.Fatalf("Infer(%s): %s has the type %d", showProgram(p), v.Name, v.Type)
			}
		}
	}
	return l
}

// checkLast holds the clocks of the last node of a text, written as by showVars.
func checkLast(t *testing.T, text, want string) {
	t.Helper()
	l := inferred(t, program(t, text))
	if got := showVars(l[len(l)-1]); got != want {
		t.Errorf("Infer(%q): %s, want %s", text, got, want)
	}
}

// checkProgramFault holds the fault of p, beside which there are no clocks.
func checkProgramFault(t *testing.T, what string, p api.Program, want api.Fault) {
	t.Helper()
	if l, got := clocks.Infer(p); got != want || len(l) > 0 {
		t.Errorf("Infer of %q: fault %v and the clocks %q, want %v", what, got, showAll(l), want)
	}
}

func checkFault(t *testing.T, want api.Fault, texts ...string) {
	t.Helper()
	for _, s := range texts {
		checkProgramFault(t, s, program(t, s), want)
	}
}

// prelude declares what the tests of items use: enums, a node with one result, one with two, and one with a static parameter.
const prelude = "type t = A | B; type one = One; type three = P | Q | R; " +
	"node inc (a) = (b) where b = a + 1; end " +
	"node two (a, b) = (c, d) where c = b; d = a; end " +
	"node twice [g] (a) = (b) where b = g(g(a)); end "

// last is the index of the node behind those of prelude.
const last = 3

// inNode returns a program whose last node has these items, the Ins x, c, d, e, and the Out y.
func inNode(items string) string {
	return prelude + "node f (x, c, d, e) = (y) where " + items + " end"
}

// checkVars holds the clocks of what the items define, written as by showVars.
func checkVars(t *testing.T, items, want string) {
	t.Helper()
	checkLast(t, inNode(items), strings.TrimSpace("x c d e "+want))
}

// checkItems holds nodes with these items against ErrClock at item b.
func checkItems(t *testing.T, b int, items ...string) {
	t.Helper()
	for _, s := range items {
		checkFault(t, clockFault(last, b), inNode(s))
	}
}

// clone returns a copy of x that shares no memory with it.
func clone[T any](x T) T {
	b, err := json.Marshal(x)
	if err != nil {
		panic(err)
	}
	var c T
	if err := json.Unmarshal(b, &c); err != nil {
		panic(err)
	}
	return c
}

// showProgram writes all of p.
func showProgram(p api.Program) string { return show(p) }

func show(x any) string {
	b, err := json.Marshal(x)
	if err != nil {
		panic(err)
	}
	return string(b)
}
