package scope_test

import (
	"encoding/json"
	"strings"
	"testing"

	"pendule/api"
	"pendule/parse"
	"pendule/scope"
)

func scopeFault(a, b int) api.Fault { return api.Fault{Err: api.ErrScope, A: a, B: b} }

// program returns the program of a text, which must be well-formed.
func program(t *testing.T, text string) api.Program {
	t.Helper()
	p, f := parse.Parse(text)
	if f != (api.Fault{}) {
		t.Fatalf("Parse(%q): fault %v", text, f)
	}
	return p
}

func checkFault(t *testing.T, text string, want api.Fault) {
	t.Helper()
	p := program(t, text)
	for _, made := range []bool{false, true} {
		if got := scope.Check(p, made); got != want {
			t.Errorf("Check(%q, %t) = %v, want %v", text, made, got, want)
		}
	}
}

func checkRight(t *testing.T, texts ...string) {
	t.Helper()
	for _, s := range texts {
		checkFault(t, s, api.Fault{})
	}
}

// checkWrong holds each of the texts against ErrScope at a, b.
func checkWrong(t *testing.T, a, b int, texts ...string) {
	t.Helper()
	for _, s := range texts {
		checkFault(t, s, scopeFault(a, b))
	}
}

// colours declares what the tests of nodes use: two types, a node with two results, and one with a static parameter.
const colours = "type colour = Red | Green | Blue; type one = One; " +
	"node two (a, b) = (c, d) where c = a; d = b; end " +
	"node inc (a) = (b) where b = a + 1; end " +
	"node twice [g] (a) = (b) where b = g(g(a)); end "

// last is the index of the node behind those of colours.
const last = 3

// inNode returns the text of colours and of a node with these items.
func inNode(items string) string {
	return colours + "node f [g, h] (x, c) = (y) where " + items + " end"
}

// checkItems holds a node with these items against ErrScope at its item b.
func checkItems(t *testing.T, b int, items ...string) {
	t.Helper()
	for _, s := range items {
		checkFault(t, inNode(s), scopeFault(last, b))
	}
}

func checkRightItems(t *testing.T, items ...string) {
	t.Helper()
	for _, s := range items {
		checkFault(t, inNode(s), api.Fault{})
	}
}

// checkExpr holds e as the expression of an equation, alone and inside of others.
func checkExpr(t *testing.T, e string, ok bool) {
	t.Helper()
	for _, around := range []string{
		"@", "- @", "1 + @", "@ + 1", "if @ then x else x", "if x then @ else x", "if x then x else @", "x fby @", "@ fby x", "x -> @", "pre @",
		"(@) when Red(c)", "merge c (False -> x | True -> @)", "inc(@)", "g(x, @)", "inc(@) every x", "inc(x) every (@)", "inc(inc(x) every inc(@))",
	} {
		text := inNode("z = x; y = " + strings.Replace(around, "@", "("+e+")", 1) + ";")
		if ok {
			checkFault(t, text, api.Fault{})
		} else {
			checkFault(t, text, scopeFault(last, 1))
		}
	}
}

func checkExprs(t *testing.T, ok bool, l ...string) {
	t.Helper()
	for _, e := range l {
		checkExpr(t, e, ok)
	}
}

// clone returns a copy of x that shares no memory with it.
func clone[T any](x T) T {
	b, err := json.Marshal(x)
	if err != nil {
		panic(err)
	}
	var c T
	if err := json.Unmarshal(b, &c); err != nil {
		panic(err)
	}
	return c
}

// generated returns p with the mark of generated names on all names and constructors but False and True.
func generated(p api.Program) api.Program {
	p = clone(p)
	s := slotsOf(&p)
	for _, name := range s.names {
		*name = "_" + *name
	}
	for _, con := range s.cons {
		if *con != "False" && *con != "True" {
			*con = "_" + *con
		}
	}
	return p
}
