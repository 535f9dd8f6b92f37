package cause_test

import (
	"encoding/json"
	"slices"
	"strings"
	"testing"

	"pendule/api"
	"pendule/cause"
	"pendule/parse"
)

func causeFault(a, b int) api.Fault { return api.Fault{Err: api.ErrCause, A: a, B: b} }

// program returns the program of a text, which must be well-formed.
func program(t *testing.T, text string) api.Program {
	t.Helper()
	p, f := parse.Parse(text)
	if f != (api.Fault{}) {
		t.Fatalf("Parse(%q): fault %v", text, f)
	}
	return p
}

// expr returns the expression of a text.
func expr(t *testing.T, text string) api.Expr {
	t.Helper()
	e, f := parse.Expr(text)
	if f != (api.Fault{}) {
		t.Fatalf("Expr(%q): fault %v", text, f)
	}
	return e
}

// variable and with return expressions that need not be well-formed.
func variable(name string, kids ...api.Expr) api.Expr {
	return api.Expr{Op: api.Var, Name: name, Kids: kids}
}

func with(op int, kids ...api.Expr) api.Expr { return api.Expr{Op: op, Kids: kids} }

func item(e api.Expr, names ...string) api.Item {
	return api.Item{Eq: api.Eq{Names: names, E: e}}
}

// automaton returns an item with a state for each of the lists of names, which defines them as x each.
func automaton(lists ...[]string) api.Item {
	var i api.Item
	for _, l := range lists {
		var q api.State
		for _, v := range l {
			q.Eqs = append(q.Eqs, api.Eq{Names: []string{v}, E: variable("x")})
		}
		i.States = append(i.States, q)
	}
	return i
}

// checkReads holds what e reads, written with spaces between the names.
func checkReads(t *testing.T, what string, e api.Expr, want string) {
	t.Helper()
	if got := cause.Reads(e); !slices.Equal(got, strings.Fields(want)) {
		t.Errorf("Reads(%s) = %q, want %q", what, got, want)
	}
}

// checkOrder holds the order of n; no order where want is nil.
func checkOrder(t *testing.T, n api.Node, want []int) {
	t.Helper()
	if got, ok := cause.Order(n); !slices.Equal(got, want) || ok != (want != nil) || !ok && got != nil {
		t.Errorf("Order(%s) = %v, %v, want %v", show(n), got, ok, want)
	}
}

func checkProgramFault(t *testing.T, what string, p api.Program, want api.Fault) {
	t.Helper()
	if got := cause.Check(p); got != want {
		t.Errorf("Check of %q: fault %v, want %v", what, got, want)
	}
}

func checkFault(t *testing.T, want api.Fault, texts ...string) {
	t.Helper()
	for _, s := range texts {
		checkProgramFault(t, s, program(t, s), want)
	}
}

// prelude declares what the tests of items use: enums, and nodes with one result, two, three kids, and a static parameter.
const prelude = "type t = A | B; type one = One; " +
	"node inc (a) = (b) where b = a + 1; end " +
	"node two (a, b) = (c, d) where c = b; d = a; end " +
	"node third (a, b, c) = (d) where d = c; end " +
	"node twice [g] (a) = (b) where b = g(g(a)); end "

// last is the index of the node behind those of prelude.
const last = 4

// inNode returns the text of a program whose last node has these items, the Ins x and c, and the Out y.
func inNode(items string) string {
	return prelude + "node f (x, c) = (y) where " + items + " end"
}

// checkOrders holds the order of a node with these items, and that the program has no fault.
func checkOrders(t *testing.T, items string, want ...int) {
	t.Helper()
	p := program(t, inNode(items))
	checkProgramFault(t, items, p, api.Fault{})
	checkOrder(t, p.Nodes[last], want)
}

// checkCircles holds nodes with these items against ErrCause at item b, and that they have no order.
func checkCircles(t *testing.T, b int, items ...string) {
	t.Helper()
	for _, s := range items {
		p := program(t, inNode(s))
		checkProgramFault(t, s, p, causeFault(last, b))
		checkOrder(t, p.Nodes[last], nil)
	}
}

// clone returns a copy of x that shares no memory with it.
func clone[T any](x T) T {
	var c T
	if err := json.Unmarshal([]byte(show(x)), &c); err != nil {
		panic(err)
	}
	return c
}

// show writes all of x.
func show(x any) string {
	b, err := json.Marshal(x)
	if err != nil {
		panic(err)
	}
	return string(b)
}
