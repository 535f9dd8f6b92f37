package special_test

import (
	"encoding/json"
	"strings"
	"testing"

	"pendule/api"
	"pendule/parse"
	"pendule/special"
	"pendule/tree"
)

// program returns the program of a text, which must be well-formed.
func program(t *testing.T, text string) api.Program {
	t.Helper()
	p, f := parse.Parse(text)
	if f != (api.Fault{}) {
		t.Fatalf("Parse(%q): fault %v", text, f)
	}
	return p
}

// specialized returns the program of a text in which the nodes have the names i0, i1 and so on, which become those that are made.
func specialized(t *testing.T, text string) api.Program {
	t.Helper()
	p := program(t, text)
	for k := range p.Nodes {
		p.Nodes[k].Name = "_" + p.Nodes[k].Name
		for _, e := range exprsOf(&p.Nodes[k]) {
			if e.Op == api.Call {
				e.Name = "_" + e.Name
			}
		}
	}
	return p
}

// pointers returns e and all expressions in it.
func pointers(e *api.Expr) []*api.Expr {
	l := []*api.Expr{e}
	for i := range e.Kids {
		l = append(l, pointers(&e.Kids[i])...)
	}
	return l
}

// exprsOf returns all expressions in the equations of n.
func exprsOf(n *api.Node) []*api.Expr {
	var l []*api.Expr
	for b := range n.Items {
		l = append(l, pointers(&n.Items[b].E)...)
	}
	return l
}

// checkProgram holds what is made of main in p.
func checkProgram(t *testing.T, p api.Program, main string, want api.Program) {
	t.Helper()
	if got, f := special.Make(p, main); f != (api.Fault{}) || !tree.Same(got, want) {
		t.Errorf("Make(%s, %q) = %s, fault %v, want %s", text(p), main, text(got), f, text(want))
	}
}

// checkMade holds what is made of the node main of a text, written as for specialized.
func checkMade(t *testing.T, from, want string) {
	t.Helper()
	checkProgram(t, program(t, from), "main", specialized(t, want))
}

func checkProgramFault(t *testing.T, what string, p api.Program, main string, want api.Fault) {
	t.Helper()
	if got, f := special.Make(p, main); f != want || len(got.Enums)+len(got.Nodes) > 0 {
		t.Errorf("Make(%s, %q) = %s, fault %v, want %v", what, main, text(got), f, want)
	}
}

// checkFault holds the fault of texts without a program beside it, whatever the node is that they are made for.
func checkFault(t *testing.T, want api.Fault, texts ...string) {
	t.Helper()
	for _, s := range texts {
		for _, main := range []string{"main", "sound", "use", "nowhere", "", "_i0"} {
			checkProgramFault(t, s, program(t, s), main, want)
		}
	}
}

// made returns what is made of p, which must have no fault.
func made(t *testing.T, p api.Program, main string) api.Program {
	t.Helper()
	q, f := special.Make(p, main)
	if f != (api.Fault{}) {
		t.Fatalf("Make(%s, %q): fault %v", text(p), main, f)
	}
	return q
}

// outs returns the Outs of the nodes of p, which tell in the tests what node each of them is made of.
func outs(p api.Program) string {
	var l []string
	for _, n := range p.Nodes {
		l = append(l, n.Outs...)
	}
	return strings.Join(l, " ")
}

// prelude declares what the tests of calls use: nodes whose Outs have their names. The last two have two kids.
const prelude = "type t = A | B; " +
	"node a (x) = (a) where a = x; end " +
	"node b (x) = (b) where b = x + 1; end " +
	"node c (x) = (c) where c = x + 2; end " +
	"node deep (x) = (deep) where deep = c(x); end " +
	"node use [g] (x) = (use) where use = g(x); end " +
	"node both [g, h] (x) = (both) where both = g(x) + h(x); end " +
	"node after [g] (x) = (after) where after = g(c(x)) + b(x); end " +
	"node on [g] (x) = (on) where on = use[g](g(x)); end " +
	"node add (x, y) = (add) where add = x + y; end " +
	"node pair [g] (x, y) = (u, v) where u = g(y); v = x; end "

// checkOrder holds the Outs of the nodes that are made for a node main, the Out main apart, which has the In x and these items.
func checkOrder(t *testing.T, items, want string) {
	t.Helper()
	p := program(t, prelude+"node main (x) = (main) where "+items+" end")
	q := made(t, p, "main")
	if got := outs(q); got != strings.TrimSpace(want+" main") {
		t.Errorf("%q needs %q, want %q and main", items, got, want)
	}
}

// text writes a program as a source text is, whatever its names are.
func text(p api.Program) string {
	s := ""
	for _, e := range p.Enums {
		s += "type " + e.Name + " = " + strings.Join(e.Cons, " | ") + "; "
	}
	for _, n := range p.Nodes {
		s += "node " + n.Name + " "
		if len(n.Funs) > 0 {
			s += list("[", n.Funs, "] ")
		}
		s += list("(", n.Ins, ") = ") + list("(", n.Outs, ") where ")
		for _, i := range n.Items {
			if len(i.States) > 0 {
				s += "automaton " + show(i.States) + " "
			}
			s += list("(", i.Names, ") = ") + tree.Show(i.E) + "; "
		}
		s += "end "
	}
	return s
}

func list(begin string, l []string, end string) string { return begin + strings.Join(l, ", ") + end }

// clone returns a copy of x that shares no memory with it.
func clone[T any](x T) T {
	var c T
	if err := json.Unmarshal([]byte(show(x)), &c); err != nil {
		panic(err)
	}
	return c
}

// show writes all of x.
func show(x any) string {
	b, err := json.Marshal(x)
	if err != nil {
		panic(err)
	}
	return string(b)
}
