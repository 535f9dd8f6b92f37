package first_test

import (
	"encoding/json"
	"strings"
	"testing"

	"pendule/api"
	"pendule/first"
	"pendule/parse"
	"pendule/scope"
)

func initFault(a, b int) api.Fault { return api.Fault{Err: api.ErrInit, A: a, B: b} }

// program returns the program of a text, which must be well-formed.
func program(t *testing.T, text string) api.Program {
	t.Helper()
	p, f := parse.Parse(text)
	if f != (api.Fault{}) {
		t.Fatalf("Parse(%q): fault %v", text, f)
	}
	return p
}

// showVars writes the variables of a node, each with a ? behind it if it is open.
func showVars(t *testing.T, n api.Node, open []bool) string {
	t.Helper()
	vars := scope.Vars(n)
	if len(open) != len(vars) {
		t.Fatalf("%v is no answer for %q", open, vars)
	}
	for i := range vars {
		if open[i] {
			vars[i] += "?"
		}
	}
	return strings.Join(vars, " ")
}

// inferred returns the open variables of a program in which all is firm that must be.
func inferred(t *testing.T, p api.Program) [][]bool {
	t.Helper()
	l, f := first.Infer(p)
	if f != (api.Fault{}) {
		t.Fatalf("Infer(%s): fault %v", show(p), f)
	}
	if len(l) != len(p.Nodes) {
		t.Fatalf("Infer(%s): %d answers for %d nodes", show(p), len(l), len(p.Nodes))
	}
	return l
}

// showAll writes the variables of all nodes of a program, by showVars, with a / between any two nodes.
func showAll(t *testing.T, p api.Program) string {
	t.Helper()
	var nodes []string
	for k, open := range inferred(t, p) {
		nodes = append(nodes, showVars(t, p.Nodes[k], open))
	}
	return strings.Join(nodes, " / ")
}

// checkAll holds the variables of the program of a text, written as by showAll.
func checkAll(t *testing.T, text, want string) {
	t.Helper()
	if got := showAll(t, program(t, text)); got != want {
		t.Errorf("Infer(%q): %s, want %s", text, got, want)
	}
}

// checkProgramFault holds the fault of p, beside which there is no answer.
func checkProgramFault(t *testing.T, what string, p api.Program, want api.Fault) {
	t.Helper()
	if l, got := first.Infer(p); got != want || len(l) > 0 {
		t.Errorf("Infer of %q: fault %v and %v, want %v", what, got, l, want)
	}
}

func checkFault(t *testing.T, want api.Fault, texts ...string) {
	t.Helper()
	for _, s := range texts {
		checkProgramFault(t, s, program(t, s), want)
	}
}

// prelude declares what the tests of items use: enums, and nodes with one result, two, three kids, and a static parameter.
const prelude = "type t = A | B; type one = One; " +
	"node inc (a) = (b) where b = a + 1; end " +
	"node two (a, b) = (c, d) where c = b; d = a; end " +
	"node third (a, b, c) = (d) where d = c; end " +
	"node twice [g] (a) = (b) where b = g(g(a)); end "

// last is the index of the node behind those of prelude.
const last = 4

// inNode returns a program whose last node has these items, the Ins x and c, and the Out y.
func inNode(items string) string {
	return prelude + "node f (x, c) = (y) where " + items + " end"
}

// checkVars holds what the items define, written as by showVars.
func checkVars(t *testing.T, items, want string) {
	t.Helper()
	p := program(t, inNode(items))
	if got := showVars(t, p.Nodes[last], inferred(t, p)[last]); got != "x c "+want {
		t.Errorf("Infer with %q: %s, want x c %s", items, got, want)
	}
}

// checkItems holds nodes with these items against ErrInit at item b.
func checkItems(t *testing.T, b int, items ...string) {
	t.Helper()
	for _, s := range items {
		checkFault(t, initFault(last, b), inNode(s))
	}
}

// clone returns a copy of x that shares no memory with it.
func clone[T any](x T) T {
	b, err := json.Marshal(x)
	if err != nil {
		panic(err)
	}
	var c T
	if err := json.Unmarshal(b, &c); err != nil {
		panic(err)
	}
	return c
}

// show writes all of x.
func show(x any) string {
	b, err := json.Marshal(x)
	if err != nil {
		panic(err)
	}
	return string(b)
}
